"""Operations 11 to 15 and 21: contracts, the index, deliveries and the shortfall; ranges, errors and their order."""

import unittest

from tests.helper import HUGE, CallTest, award, ask, close_contract, contract_value, correct_delivery, create_bill
from tests.helper import get_contract, list_bids, list_bills, open_sale, place_bid, proceed, record_delivery, set_day
from tests.helper import set_index, shortfall, sold, state_after, withdraw_bid

ZERO = [0] * 10
# A contract that is awarded on day 6, told on day 8.
ONE = sold([[1000, 20]], [([0], [3, 4], [5, 1])], day=5) + [set_day(8)]
TWO = sold([[1000], [0, 500]], [([0], [3], [5, 1]), ([1], [0, 7], [6, 2])], day=5) + [set_day(8)]
DELIVERED = ONE + [record_delivery(0, 7, 0, 300)]
FULL_INDEX = [set_index(10 * number, 900 + number) for number in range(16)]
ON_A_CONTRACT = (get_contract, close_contract, contract_value, create_bill, list_bills, shortfall)


class NoSuchContract(CallTest):
    def test_none_at_all(self):
        for call in ON_A_CONTRACT:
            for number in (0, 1, HUGE):
                self.refused(-3, [], call(number))
                self.refused(-3, [open_sale()], call(number))

    def test_beyond_the_last(self):
        for call in ON_A_CONTRACT:
            for number in (1, 24, HUGE):
                self.refused(-3, ONE, call(number))
            self.refused(-3, TWO, call(2))
            self.assertGreaterEqual(ask(TWO + [record_delivery(1, 7, 1, 1000), call(1)])[-1][0], 0)

    def test_an_award_without_contracts(self):
        for call in ON_A_CONTRACT:
            self.refused(-3, sold([[1000]], []), call(0))

    def test_twenty_four_contracts(self):
        calls = [call for day in range(0, 6, 2)
                 for call in sold([[1000]] * 8, [([lot], [lot + 1], [lot, 1]) for lot in range(8)], day=day)]
        state = state_after(calls)
        for call in ON_A_CONTRACT:
            self.assertEqual(proceed(state, [call(24)]), [[-3]])
        self.assertEqual(proceed(state, [close_contract(number) for number in range(24)]), [[0]] * 24)
        for number in range(24):
            told = proceed(state, [get_contract(number)])[0]
            price = number % 8 + 1
            self.assertEqual(told, [0, 2 * (number // 8) + 1, 1, 1, 0, 1, 1000] + ZERO[1:] + [price] + ZERO[1:]
                             + [1, number % 8, 1])


class GetContract(CallTest):
    def test_rule_0(self):
        self.told([0, 6, 1, 1, 0, 0, 1000, 20] + ZERO[2:] + [3, 4] + ZERO[2:] + [1, 5, 1], ONE, get_contract(0))

    def test_rule_1(self):
        lots = [(1, [1000, 7]), (0, [0, 0, 2000]), (2, [1000] * 10)]
        bids = [([2], [2] * 10, [7, 3]), ([0], [3], [4, 5, 2, 9, 1, 1]), ([0], [2], [8, 1]),
                ([1], [9, 9, 9], [15, 1000, 0, 1, 3, 4, 2, 4])]
        calls = sold(lots, bids, 1, 300, 8)
        self.told([0, 9, 1, 10, 300, 0] + [1000] * 10 + [2] * 10 + [1, 7, 3], calls, get_contract(0))
        self.told([0, 9, 2, 3, 300, 0, 1000, 7] + ZERO[2:] + [3] + ZERO[1:] + [3, 4, 5, 2, 9, 1, 1],
                  calls, get_contract(1))
        # The threshold of the last bid is 0; zero is 0, 1.
        self.told([0, 9, 0, 1, 300, 0, 0, 0, 2000] + ZERO[3:] + [9, 9, 9] + ZERO[3:] + [4, 15, 1000, 0, 1, 3, 4, 2, 4],
                  calls, get_contract(2))

    def test_factor_1_with_rule_1(self):
        self.told([0, 1, 1, 1, 0, 0, 1000] + ZERO[1:] + [4] + ZERO[1:] + [1, 0, 1],
                  sold([(4, [1000])], [([0], [4], [0, 1])], 1), get_contract(0))

    def test_factor_in_lowest_terms(self):
        for price, other, told in ((6, 4, [2, 3]), (9, 3, [1, 3]), (7, 5, [5, 7]), (1000, 250, [1, 4]), (3, 3, [1, 1])):
            calls = sold([[1000]], [([0], [price], [0, 1]), ([0], [other], [1, 1])], 1)
            self.assertEqual(ask(calls + [get_contract(0)])[-1][2:4], told)

    def test_rule_0_has_factor_1_whatever_the_threshold(self):
        calls = sold([[1000]], [([0], [6], [0, 1]), ([0], [4], [1, 1])], 0)
        self.assertEqual(ask(calls + [get_contract(0)])[-1][2:4], [1, 1])

    def test_advance_edges(self):
        for advance in (0, 1, 999, 1000):
            calls = sold([[1000]], [([0], [6], [0, 1])], 0, advance)
            self.assertEqual(ask(calls + [get_contract(0)])[-1][4], advance)

    def test_closed(self):
        self.told([0, 6, 1, 1, 0, 1, 1000, 20] + ZERO[2:] + [3, 4] + ZERO[2:] + [1, 5, 1],
                  ONE + [close_contract(0)], get_contract(0))
        self.assertEqual(ask(TWO + [close_contract(1), get_contract(0)])[-1][5], 0)

    def test_volumes_of_a_package(self):
        lots = [[1, 2], [500], [10, 0, 30], [0] * 9 + [1000000], [0] * 9 + [1000000]]
        calls = sold(lots, [([2, 0, 4, 3], [5], [0, 1])])
        self.told([0, 1, 1, 1, 0, 0, 11, 2, 30, 0, 0, 0, 0, 0, 0, 2000000] + [5] + ZERO[1:] + [1, 0, 1],
                  calls, get_contract(0))

    def test_nothing_else_changes_a_contract(self):
        before = ask(DELIVERED + [get_contract(0)])[-1]
        others = [set_index(6, 1300), correct_delivery(0, 5), create_bill(0), set_day(20), open_sale(20, 1, 999)]
        self.assertEqual(ask(DELIVERED + others + [get_contract(0)])[-1], before)


class SetIndex(CallTest):
    def test_edges(self):
        for day in (0, 1, 99998, 99999):
            for index in (1, 2, 1000, 9999, 10000):
                state = self.answered([0], [], set_index(day, index))
                self.assertEqual(state.index_values, {day: index})

    def test_any_day(self):
        for day in (0, 6, 7, 8, 9, 99999):
            self.answered([0], ONE, set_index(day, 1100))

    def test_out_of_range(self):
        for day, index in ((100000, 1000), (HUGE, 1000), (0, 0), (0, 10001), (0, HUGE), (HUGE, HUGE), (100000, 0)):
            self.refused(-1, [], set_index(day, index))
            self.refused(-1, ONE, set_index(day, index))

    def test_sixteen_days(self):
        self.answered([0], FULL_INDEX[:15], set_index(150, 1))
        for day in (1, 149, 151, 99999):
            self.refused(-9, FULL_INDEX, set_index(day, 1000))

    def test_a_replacement_at_sixteen_days(self):
        for day in (0, 70, 150):
            self.answered([0], FULL_INDEX, set_index(day, 1000))
        self.refused(-9, FULL_INDEX + [set_index(70, 1000)], set_index(71, 1000))
        self.assertEqual(ask(FULL_INDEX + [set_index(30, 5), set_index(31, 5), set_index(30, 6)])[-3:],
                         [[0], [-9], [0]])

    def test_a_replacement_takes_no_place(self):
        calls = [set_index(7, value) for value in range(1, 40)] + FULL_INDEX[:15]
        self.assertEqual(ask(calls + [set_index(8, 1)]), [[0]] * 54 + [[-9]])

    def test_order_of_errors(self):
        for day, index in ((100000, 1), (1, 0), (1, 10001), (HUGE, HUGE)):
            self.refused(-1, FULL_INDEX, set_index(day, index))


class RecordDelivery(CallTest):
    def test_numbers(self):
        calls = [record_delivery(number % 2, 7, 0, number) for number in range(6)]
        self.assertEqual(ask(TWO + calls)[-6:], [[number] for number in range(6)])

    def test_edges(self):
        for grade in (0, 1, 8, 9):
            for volume in (0, 1, 999999, 1000000):
                state = self.answered([0], ONE, record_delivery(0, 7, grade, volume))
                made = state.deliveries[0]
                self.assertEqual((made.contract, made.day, made.grade, made.volume), (0, 7, grade, volume))

    def test_days_from_the_award_to_the_current_day(self):
        for day in (6, 7, 8):
            self.answered([0], ONE, record_delivery(0, day, 0, 5))
        for day in (0, 5, 9, 99999):
            self.refused(-4, ONE, record_delivery(0, day, 0, 5))

    def test_the_award_day_of_each_contract(self):
        calls = ONE + sold([[1000]], [([0], [3], [5, 1])], day=10) + [set_day(12)]
        self.answered([0], calls, record_delivery(0, 6, 0, 5))
        self.answered([0], calls, record_delivery(1, 11, 0, 5))
        self.refused(-4, calls, record_delivery(1, 10, 0, 5))
        self.refused(-4, calls, record_delivery(1, 13, 0, 5))

    def test_the_first_and_the_last_day(self):
        calls = sold([[1000]], [([0], [3], [5, 1])])
        self.answered([0], calls, record_delivery(0, 1, 0, 5))
        self.refused(-4, calls, record_delivery(0, 0, 0, 5))
        self.answered([0], calls + [set_day(99999)], record_delivery(0, 99999, 0, 5))
        self.answered([0], calls + [set_day(99999)], record_delivery(0, 1, 0, 5))
        self.refused(-1, calls + [set_day(99999)], record_delivery(0, 100000, 0, 5))

    def test_out_of_range(self):
        for day, grade, volume in ((100000, 0, 0), (HUGE, 0, 0), (7, 10, 0), (7, HUGE, 0), (7, 0, 1000001),
                                   (7, 0, HUGE), (HUGE, HUGE, HUGE)):
            self.refused(-1, ONE, record_delivery(0, day, grade, volume))

    def test_missing(self):
        for number in (0, 1, HUGE):
            self.refused(-3, [set_day(8)], record_delivery(number, 7, 0, 0))
        for number in (1, 24, HUGE):
            self.refused(-3, ONE, record_delivery(number, 7, 0, 0))

    def test_closed(self):
        self.refused(-8, ONE + [close_contract(0)], record_delivery(0, 7, 0, 5))
        self.answered([0], TWO + [close_contract(0)], record_delivery(1, 7, 0, 5))

    def test_a_grade_without_volume_and_more_than_the_volume(self):
        self.answered([0], ONE, record_delivery(0, 7, 9, 1000000))
        self.answered([1], ONE + [record_delivery(0, 7, 0, 1000000)], record_delivery(0, 7, 0, 1000000))

    def test_sixty_four_deliveries(self):
        calls = [record_delivery(number % 2, 7, 0, number) for number in range(64)]
        self.answered([63], TWO + calls[:63], record_delivery(0, 8, 0, 7))
        self.refused(-9, TWO + calls, record_delivery(0, 8, 0, 7))
        self.refused(-9, TWO + calls, record_delivery(1, 8, 0, 7))
        self.answered([0], TWO + calls, correct_delivery(63, 7))
        self.refused(-3, TWO + calls, correct_delivery(64, 7))
        self.refused(-9, TWO + calls + [correct_delivery(3, 0)], record_delivery(0, 8, 0, 7))

    def test_order_of_errors(self):
        full = TWO + [record_delivery(0, 7, 0, 1)] * 64
        for calls in ([], TWO, TWO + [close_contract(0)], full, full + [close_contract(0)]):
            for number in (0, 7):
                self.refused(-1, calls, record_delivery(number, 100000, 0, 0))
                self.refused(-1, calls, record_delivery(number, 9, 10, 0))
                self.refused(-1, calls, record_delivery(number, 9, 0, 1000001))
            self.refused(-3, calls, record_delivery(7, 9, 0, 0))
        for calls in (TWO + [close_contract(0)], full + [close_contract(0)]):
            for day in (5, 7, 9):
                self.refused(-8, calls, record_delivery(0, day, 0, 0))
        self.refused(-4, full, record_delivery(0, 5, 0, 0))
        self.refused(-4, full, record_delivery(0, 9, 0, 0))
        self.refused(-9, full, record_delivery(0, 7, 0, 0))


class CorrectDelivery(CallTest):
    def test_replaces_the_volume(self):
        for volume in (0, 1, 300, 999999, 1000000):
            self.answered([0], DELIVERED, correct_delivery(0, volume))
            results = ask(DELIVERED + [correct_delivery(0, volume), contract_value(0)])
            self.assertEqual(results[-1][5], (volume * 3 + 500) // 1000)

    def test_the_last_correction_holds(self):
        results = ask(DELIVERED + [correct_delivery(0, volume) for volume in (5, 1000000, 0, 2000)] + [shortfall(0)])
        self.assertEqual(results[-1], [0, -1000, 20] + ZERO[2:])

    def test_only_the_delivery_named(self):
        calls = TWO + [record_delivery(0, 7, 0, 1), record_delivery(1, 7, 0, 2), record_delivery(0, 7, 0, 4)]
        state = state_after(calls + [correct_delivery(1, 9)])
        self.assertEqual([delivery.volume for delivery in state.deliveries], [1, 9, 4])

    def test_under_a_closed_contract(self):
        calls = DELIVERED + [close_contract(0), correct_delivery(0, 4000)]
        self.assertEqual(ask(calls + [contract_value(0), shortfall(0)])[-3:],
                         [[0], [0, 77, 25, 12, 1, 12], [0, -3000, 20] + ZERO[2:]])

    def test_out_of_range(self):
        for volume in (1000001, HUGE):
            self.refused(-1, DELIVERED, correct_delivery(0, volume))

    def test_missing(self):
        for number in (0, HUGE):
            self.refused(-3, [], correct_delivery(number, 5))
            self.refused(-3, ONE, correct_delivery(number, 5))
        for number in (1, 63, 64, HUGE):
            self.refused(-3, DELIVERED, correct_delivery(number, 5))

    def test_order_of_errors(self):
        for calls in ([], ONE, DELIVERED):
            self.refused(-1, calls, correct_delivery(7, 1000001))
            self.refused(-1, calls, correct_delivery(HUGE, HUGE))


class CloseContract(CallTest):
    def test_closes(self):
        self.answered([0], ONE, close_contract(0))
        state = state_after(TWO + [close_contract(1)])
        self.assertEqual([contract.closed for contract in state.contracts], [False, True])
        self.answered([0], TWO + [close_contract(1)], close_contract(0))

    def test_on_the_day_of_the_award(self):
        self.answered([0], sold([[1000]], [([0], [3], [5, 1])]), close_contract(0))

    def test_already_closed(self):
        self.refused(-8, ONE + [close_contract(0)], close_contract(0))
        self.refused(-8, TWO + [close_contract(1), close_contract(0), set_day(9)], close_contract(1))

    def test_order_of_errors(self):
        self.refused(-3, ONE + [close_contract(0)], close_contract(1))


class Shortfall(CallTest):
    def test_nothing_delivered(self):
        self.told([0, 1000, 20] + ZERO[2:], ONE, shortfall(0))
        self.told([0] + [1000000] * 10, sold([[1000000] * 10], [([0], [1], [0, 1])]), shortfall(0))

    def test_several_deliveries(self):
        calls = TWO + [record_delivery(0, 7, 0, 300), record_delivery(1, 7, 1, 50), record_delivery(0, 8, 0, 200),
                       record_delivery(1, 7, 1, 0), record_delivery(0, 6, 0, 1)]
        self.told([0, 499] + ZERO[1:], calls, shortfall(0))
        self.told([0, 0, 450] + ZERO[2:], calls, shortfall(1))

    def test_each_grade(self):
        calls = sold([[1000] * 10], [([0], [1], [0, 1])])
        calls = calls + [record_delivery(0, 1, grade, 100 * grade) for grade in range(10)]
        self.told([0] + [1000 - 100 * grade for grade in range(10)], calls, shortfall(0))

    def test_exactly_and_below_0(self):
        self.told([0, 0, 20] + ZERO[2:], ONE + [record_delivery(0, 7, 0, 1000)], shortfall(0))
        self.told([0, -1, 20] + ZERO[2:], ONE + [record_delivery(0, 7, 0, 1001)], shortfall(0))
        self.told([0, 1000, 20, 0, 0, 0, 0, 0, 0, 0, -1000000], ONE + [record_delivery(0, 7, 9, 1000000)], shortfall(0))
        calls = TWO + [record_delivery(0, 7, 1, 1000000)] * 64
        self.told([0, 1000, -64000000] + ZERO[2:], calls, shortfall(0))
        self.told([0, 0, 500] + ZERO[2:], calls, shortfall(1))

    def test_after_a_correction(self):
        self.told([0, 1000, 20] + ZERO[2:], DELIVERED + [correct_delivery(0, 0)], shortfall(0))
        self.told([0, 3, 20] + ZERO[2:], DELIVERED + [correct_delivery(0, 997)], shortfall(0))

    def test_closed(self):
        self.told([0, 700, 20] + ZERO[2:], DELIVERED + [close_contract(0)], shortfall(0))

    def test_neither_index_nor_prices_matter(self):
        self.told([0, 700, 20] + ZERO[2:], DELIVERED + [set_index(7, 3000), set_index(6, 1)], shortfall(0))


class BesideSales(CallTest):
    def test_an_open_sale_does_not_matter(self):
        rest = [set_index(7, 1100), record_delivery(0, 7, 0, 300), contract_value(0), create_bill(0), list_bills(0),
                correct_delivery(0, 100), close_contract(0), shortfall(0), get_contract(0)]
        sale = [open_sale(20, 1, 999), [2, 5, 1, 7], place_bid([0], [9], [5, 1])]
        self.assertEqual(ask(ONE + sale + rest)[-len(rest):], ask(ONE + rest)[-len(rest):])
        self.assertEqual(ask(ONE + sale + rest + [list_bids(), withdraw_bid(0), set_day(21), award(), get_contract(1)])
                         [-5:], [[-4], [0], [0], [0, 1], [-3]])


if __name__ == "__main__":
    unittest.main()
