"""Operations 17 to 20: bills, payments and balances; ranges, errors and the order of errors."""

import random
import unittest

from tests.helper import HUGE, CallTest, ask, balance, close_contract, contract_value, correct_delivery, create_bill
from tests.helper import list_bills, open_sale, proceed, record_delivery, record_payment, request, set_day, set_index
from tests.helper import sold, split_results, state_after
from timberbids.amounts import due_of, parts_of
from timberbids.desk import answers

# 100 cents are estimated, 50 of them due ahead of any delivery; one liter is a cent.
OPEN = sold([[100]], [([0], [1000], [3, 2, 1, 1])], 0, 500, 5)
# Nothing is due ahead of a delivery.
BARE = sold([[100]], [([0], [1000], [3, 2, 1, 1])], 0, 0, 5)
# Three contracts without advance; bidder 1 takes part in two of them, bidder 2 in all.
THREE = sold([[10], [10], [10]], [([0], [1000], [1, 1, 2, 1]), ([1], [1000], [2, 3, 1, 1, 4, 1]),
                                  ([2], [1000], [2, 1])], 0, 0, 5)


def deliver(contract, volume):
    return record_delivery(contract, 6, 0, volume)


def many_bills(count, contract=0):
    """Each delivery is corrected to another cent and billed."""
    calls = []
    for number in range(count):
        calls += [correct_delivery(contract, number + 1), create_bill(contract)]
    return calls


class CreateBill(CallTest):
    def test_advance(self):
        self.answered([0, 3, 33, 1, 17], OPEN, create_bill(0))

    def test_order_of_the_bid(self):
        calls = sold([[100]], [([0], [1000], [15, 1, 0, 2, 7, 3, 4, 4])], 0, 1000)
        self.answered([0, 15, 10, 0, 20, 7, 30, 4, 40], calls, create_bill(0))

    def test_one_to_four_bidders(self):
        for count in range(1, 5):
            bidders = [number for bidder in range(count) for number in (bidder, 1)]
            calls = sold([[7]], [([0], [1000], bidders)], 0, 1000)
            parts = [7 // count + (bidder < 7 % count) for bidder in range(count)]
            told = [number for bidder in range(count) for number in (bidder, parts[bidder])]
            self.answered([0] + told, calls, create_bill(0))

    def test_differences(self):
        calls = OPEN + [create_bill(0), deliver(0, 80)]
        self.answered([1, 3, 20, 1, 10], calls, create_bill(0))
        calls = calls + [create_bill(0), deliver(0, 1)]
        self.answered([2, 3, 1, 1, 0], calls, create_bill(0))
        calls = calls + [create_bill(0), deliver(0, 219)]
        self.answered([3, 3, 146, 1, 73], calls, create_bill(0))

    def test_amounts_below_0(self):
        calls = BARE + [deliver(0, 90), create_bill(0), correct_delivery(0, 60)]
        self.answered([1, 3, -20, 1, -10], calls, create_bill(0))
        self.answered([1, 3, -60, 1, -30], calls + [correct_delivery(0, 0)], create_bill(0))
        self.answered([1, 3, -33, 1, -17], OPEN + [create_bill(0), close_contract(0)], create_bill(0))

    def test_one_amount_0_or_below_while_another_is_above(self):
        calls = BARE + [deliver(0, 1), create_bill(0), correct_delivery(0, 2)]
        self.answered([1, 3, 0, 1, 1], calls, create_bill(0))
        # One cent more may shift remainders so that a bidder's part gets smaller.
        weights = [1, 5, 5]
        down = [(due, place) for due in range(40) for place in range(3)
                if parts_of(due + 1, weights)[place] < parts_of(due, weights)[place]]
        self.assertTrue(down)
        due, place = down[0]
        calls = sold([[1]], [([0], [1000], [4, 1, 5, 5, 6, 5])]) + [record_delivery(0, 1, 0, due), create_bill(0)]
        told = ask(calls + [correct_delivery(0, due + 1), create_bill(0)])[-1]
        self.assertEqual(told[2 + 2 * place], -1)
        self.assertEqual(sum(told[2::2]), 1)

    def test_nothing_due(self):
        self.refused(-8, BARE, create_bill(0))
        self.refused(-8, BARE + [deliver(0, 0)], create_bill(0))
        self.refused(-8, OPEN + [close_contract(0)], create_bill(0))
        # 0.499 cents
        calls = sold([[1]], [([0], [1], [0, 1])]) + [record_delivery(0, 1, 0, 499)]
        self.refused(-8, calls, create_bill(0))
        self.answered([0, 0, 1], calls + [record_delivery(0, 1, 0, 1)], create_bill(0))

    def test_nothing_new(self):
        calls = OPEN + [create_bill(0)]
        self.refused(-8, calls, create_bill(0))
        self.refused(-8, calls + [set_day(9)], create_bill(0))
        self.refused(-8, calls + [deliver(0, 50)], create_bill(0))
        self.refused(-8, calls + [record_payment(3, 33), record_payment(1, 5)], create_bill(0))
        self.refused(-8, calls + [deliver(0, 60), create_bill(0), close_contract(0)], create_bill(0))
        calls = BARE + [deliver(0, 30), create_bill(0), correct_delivery(0, 31), correct_delivery(0, 30)]
        self.refused(-8, calls, create_bill(0))

    def test_a_way_there_and_back(self):
        calls = BARE + [deliver(0, 30), create_bill(0), correct_delivery(0, 0), create_bill(0)]
        self.refused(-8, calls, create_bill(0))
        self.answered([2, 3, 20, 1, 10], calls + [correct_delivery(0, 30)], create_bill(0))

    def test_by_the_index(self):
        calls = BARE + [set_day(8), record_delivery(0, 7, 0, 90), create_bill(0), set_index(7, 1500)]
        self.answered([1, 3, 30, 1, 15], calls, create_bill(0))
        self.answered([1, 3, -30, 1, -15], calls + [set_index(6, 3000)], create_bill(0))
        self.refused(-8, calls + [set_index(6, 1500)], create_bill(0))

    def test_closed(self):
        calls = OPEN + [deliver(0, 30), create_bill(0), close_contract(0)]
        self.answered([1, 3, -13, 1, -7], calls, create_bill(0))
        calls = calls + [create_bill(0), correct_delivery(0, 90)]
        self.answered([2, 3, 40, 1, 20], calls, create_bill(0))

    def test_several_contracts_mixed(self):
        calls = THREE + [deliver(0, 9), deliver(1, 5), deliver(2, 4)]
        bills = [create_bill(1), create_bill(0), create_bill(2), correct_delivery(0, 4), create_bill(0),
                 create_bill(1), correct_delivery(1, 10), create_bill(1)]
        self.assertEqual(ask(calls + bills)[-8:],
                         [[0, 2, 3, 1, 1, 4, 1], [1, 1, 5, 2, 4], [2, 2, 4], [0], [3, 1, -3, 2, -2], [-8], [0],
                          [4, 2, 3, 1, 1, 4, 1]])

    def test_missing(self):
        for number in (0, HUGE):
            self.refused(-3, [], create_bill(number))
            self.refused(-3, [open_sale()], create_bill(number))
        for number in (1, 24, HUGE):
            self.refused(-3, OPEN, create_bill(number))

    def test_forty_eight_bills(self):
        calls = BARE + [deliver(0, 0)] + many_bills(48)
        self.assertGreater(len(calls), 60)
        results = ask(calls)
        self.assertEqual([result[0] for result in results[-96:][1::2]], list(range(48)))
        self.refused(-9, calls + [correct_delivery(0, 0)], create_bill(0))
        self.refused(-9, calls + [correct_delivery(0, 49)], create_bill(0))
        # The parts of 47 cents are 31 and 16, those of 49 cents 33 and 16.
        self.answered([47, 3, 2, 1, 0], BARE + [deliver(0, 0)] + many_bills(47) + [correct_delivery(0, 49)],
                      create_bill(0))

    def test_forty_eight_bills_of_several_contracts(self):
        calls = THREE + [deliver(number, 0) for number in range(3)]
        for volume in range(1, 17):
            for number in range(3):
                calls = calls + [correct_delivery(number, volume), create_bill(number)]
        self.assertEqual(ask(calls)[-1][0], 47)
        for number in range(3):
            self.refused(-8, calls, create_bill(number))
            self.refused(-9, calls + [correct_delivery(number, 99)], create_bill(number))
            self.assertEqual(ask(calls + [list_bills(number)])[-1][0], 16)

    def test_order_of_errors(self):
        full = BARE + [deliver(0, 0)] + many_bills(48)
        self.refused(-3, full, create_bill(1))
        self.refused(-3, full + [correct_delivery(0, 77)], create_bill(HUGE))
        self.refused(-8, full, create_bill(0))
        self.refused(-8, full + [correct_delivery(0, 77), correct_delivery(0, 48)], create_bill(0))
        self.refused(-9, full + [correct_delivery(0, 77)], create_bill(0))

    def test_a_refused_bill_takes_no_number(self):
        calls = OPEN + [create_bill(1), create_bill(0), create_bill(0), create_bill(7), deliver(0, 51)]
        self.assertEqual(ask(calls + [create_bill(0), list_bills(0)])[-2:],
                         [[1, 3, 1, 1, 0], [2, 0, 6, 33, 17, 1, 6, 1, 0]])


class ListBills(CallTest):
    def test_none(self):
        self.told([0], OPEN, list_bills(0))
        self.told([0], BARE, list_bills(0))

    def test_days_and_amounts(self):
        calls = OPEN + [create_bill(0), set_day(9), deliver(0, 80), create_bill(0), set_day(99999),
                        correct_delivery(0, 0), create_bill(0)]
        self.told([3, 0, 6, 33, 17, 1, 9, 20, 10, 2, 99999, -20, -10], calls, list_bills(0))
        self.told([3, 0, 6, 33, 17, 1, 9, 20, 10, 2, 99999, -20, -10], calls + [close_contract(0)], list_bills(0))

    def test_the_current_day_not_that_of_the_delivery(self):
        calls = BARE + [set_day(8), deliver(0, 3), set_day(11), create_bill(0), set_day(12)]
        self.told([1, 0, 11, 2, 1], calls, list_bills(0))

    def test_of_this_contract_only(self):
        calls = THREE + [deliver(0, 9), deliver(1, 5), deliver(2, 4), create_bill(1), set_day(8), create_bill(0),
                         create_bill(2), correct_delivery(1, 10), create_bill(1)]
        self.told([1, 1, 8, 5, 4], calls, list_bills(0))
        self.told([2, 0, 6, 3, 1, 1, 3, 8, 3, 1, 1], calls, list_bills(1))
        self.told([1, 2, 8, 4], calls, list_bills(2))

    def test_one_to_four_bidders(self):
        for count in range(1, 5):
            bidders = [number for bidder in range(count) for number in (15 - bidder, bidder + 1)]
            calls = sold([[10 * count * (count + 1) // 2]], [([0], [1000], bidders)], 0, 1000) + [create_bill(0)]
            self.told([1, 0, 1] + [10 * (bidder + 1) for bidder in range(count)], calls, list_bills(0))

    def test_later_bills_leave_earlier_ones(self):
        calls = BARE + [deliver(0, 30), create_bill(0)]
        before = ask(calls + [list_bills(0)])[-1]
        after = ask(calls + [correct_delivery(0, 9), set_index(6, 9), set_day(8), create_bill(0), list_bills(0)])[-1]
        self.assertEqual(after[1:5], before[1:5])

    def test_missing(self):
        for number in (0, HUGE):
            self.refused(-3, [], list_bills(number))
        for number in (1, 24, HUGE):
            self.refused(-3, OPEN + [create_bill(0)], list_bills(number))

    def test_forty_eight(self):
        told = ask(BARE + [deliver(0, 0)] + many_bills(48) + [list_bills(0)])[-1]
        self.assertEqual(len(told), 1 + 48 * 4)
        self.assertEqual(told[0], 48)
        self.assertEqual(told[1::4], list(range(48)))
        self.assertEqual(told[2::4], [6] * 48)
        self.assertEqual((sum(told[3::4]), sum(told[4::4])), (32, 16))


class RecordPayment(CallTest):
    def test_edges(self):
        for bidder in (0, 1, 14, 15):
            for amount in (0, 1, 999999999, 1000000000):
                state = self.answered([0], OPEN, record_payment(bidder, amount))
                self.assertEqual(state.paid, [0] * bidder + [amount] + [0] * (15 - bidder))
                self.assertEqual(ask([record_payment(bidder, amount), balance(bidder)]), [[0], [0, -amount]])

    def test_without_contract_and_sale(self):
        self.answered([0], [], record_payment(3, 5))
        self.answered([0], [open_sale()], record_payment(3, 5))

    def test_out_of_range(self):
        for bidder, amount in ((16, 0), (HUGE, 0), (0, 1000000001), (0, HUGE), (16, 1000000001), (HUGE, HUGE)):
            self.refused(-1, [], record_payment(bidder, amount))
            self.refused(-1, OPEN, record_payment(bidder, amount))

    def test_as_many_as_one_likes(self):
        calls = [record_payment(7, 1000000000)] * 200
        self.assertEqual(ask(calls + [balance(7)]), [[0]] * 200 + [[0, -200000000000]])


class Balance(CallTest):
    def test_edges(self):
        for bidder in range(16):
            self.told([0, 0], [], balance(bidder))
            self.told([0, {3: 33, 1: 17}.get(bidder, 0)], OPEN + [create_bill(0)], balance(bidder))

    def test_out_of_range(self):
        for bidder in (16, 17, HUGE):
            self.refused(-1, [], balance(bidder))
            self.refused(-1, OPEN + [create_bill(0)], balance(bidder))

    def test_what_is_due_but_not_billed_does_not_count(self):
        self.told([0, 0], OPEN + [deliver(0, 90)], balance(3))
        self.told([0, 33], OPEN + [create_bill(0), deliver(0, 90)], balance(3))

    def test_payments(self):
        calls = OPEN + [create_bill(0), record_payment(3, 20)]
        self.told([0, 13], calls, balance(3))
        self.told([0, 17], calls, balance(1))
        self.told([0, 0], calls + [record_payment(3, 13)], balance(3))
        self.told([0, -1], calls + [record_payment(3, 14), record_payment(2, 9)], balance(3))
        self.told([0, -9], calls + [record_payment(3, 14), record_payment(2, 9)], balance(2))
        self.told([0, 13], calls + [record_payment(3, 0)], balance(3))
        self.told([0, -1000000000], calls + [record_payment(3, 999999999), record_payment(3, 14)], balance(3))

    def test_payment_ahead_of_the_bill(self):
        self.told([0, -7], [record_payment(3, 40)] + OPEN + [create_bill(0)], balance(3))

    def test_below_0_by_a_bill(self):
        calls = BARE + [deliver(0, 90), create_bill(0), record_payment(3, 60), correct_delivery(0, 30), create_bill(0)]
        self.told([0, -40], calls, balance(3))
        self.told([0, 10], calls, balance(1))

    def test_several_contracts_and_bills(self):
        calls = THREE + [deliver(0, 9), deliver(1, 5), deliver(2, 4), create_bill(1), create_bill(0), create_bill(2)]
        for bidder, told in ((0, 0), (1, 6), (2, 11), (3, 0), (4, 1)):
            self.told([0, told], calls, balance(bidder))
        calls = calls + [correct_delivery(0, 4), create_bill(0), correct_delivery(1, 10), create_bill(1),
                         record_payment(1, 3), record_payment(2, 12), record_payment(1, 2), record_payment(4, 2)]
        for bidder, told in ((0, 0), (1, -1), (2, 0), (3, 0), (4, 0)):
            self.told([0, told], calls, balance(bidder))
        self.told([0, 0], calls + [close_contract(0), close_contract(1), close_contract(2)], balance(2))

    def test_contracts_of_two_sales(self):
        calls = OPEN + [create_bill(0)] + sold([[100]], [([0], [1000], [1, 1, 3, 1])], 0, 500, 10) + [create_bill(1)]
        self.told([0, 17 + 25], calls, balance(1))
        self.told([0, 33 + 25], calls, balance(3))

    def test_above_32_bits(self):
        calls = sold([[1000000]], [([0], [1000000], [8, 1])], 0, 0)
        calls = calls + [record_delivery(0, 1, 0, 1000000)] * 5 + [create_bill(0)]
        self.told([0, 5000000000], calls, balance(8))


class Requirement6(unittest.TestCase):
    def test_bills_add_up_to_the_parts(self):
        bills = {"below 0": 0, "made": 0, "nothing new": 0}
        for seed in range(80):
            draw = random.Random(seed)
            lots = [[draw.randint(0, 3000) for grade in range(3)] for lot in range(3)]
            bids = []
            for lot in range(3):
                members = draw.sample(range(6), draw.randint(1, 4))
                bids.append(([lot], [draw.randint(1, 900) for grade in range(3)],
                             [number for bidder in members for number in (bidder, draw.choice((1, 1, 2, 5, 1000)))]))
            state = state_after(sold(lots, bids, draw.randint(0, 1), draw.choice((0, 300, 1000))))
            for step in range(60):
                proceed(state, [self.change(state, draw)])
                number = draw.randrange(len(state.contracts) + 1)
                self.bill(state, number, bills)
        self.assertGreater(min(bills.values()), 50)

    def change(self, state, draw):
        volume = draw.choice((0, 1, 3, 500, draw.randint(0, 5000)))
        return draw.choice((record_delivery(draw.randrange(3), state.day, draw.randrange(3), volume),
                            record_delivery(draw.randrange(3), state.day, draw.randrange(3), volume),
                            correct_delivery(draw.randrange(5), volume), set_day(state.day + 1),
                            set_index(draw.randint(0, state.day), draw.randint(900, 1100)),
                            close_contract(draw.randrange(30))))

    def bill(self, state, number, bills):
        told = proceed(state, [create_bill(number)])[0]
        if told[0] in (-3, -9):
            return
        contract = state.contracts[number]
        listed = proceed(state, [list_bills(number)])[0]
        width = 2 + len(contract.bidders)
        sums = [sum(listed[3 + place::width]) for place in range(len(contract.bidders))]
        due = proceed(state, [contract_value(number)])[0][5]
        self.assertEqual(due, due_of(state, number))
        self.assertEqual(sum(sums), due)
        self.assertEqual(sums, parts_of(due, [weight for bidder, weight in contract.bidders]))
        bills["made"] += told[0] >= 0
        bills["nothing new"] += told == [-8]
        bills["below 0"] += told[0] >= 0 and min(told[2::2]) < 0


class Requirement7(unittest.TestCase):
    AFTER = [call for number in range(3) for call in (contract_value(number), create_bill(number), list_bills(number))]

    def test_a_correction_as_if_recorded(self):
        before = THREE + [set_day(8), set_index(7, 1100)]
        for volume in (0, 1, 77, 1000000):
            for between in ([], [correct_delivery(1, 5)], [correct_delivery(1, 12), correct_delivery(1, 999999)]):
                for closing in ([], [close_contract(0), close_contract(1)]):
                    rest = [record_delivery(1, 8, 0, 21)] + closing
                    late = ask(before + [deliver(0, 4), record_delivery(1, 7, 0, 13)] + rest + between
                               + [correct_delivery(1, volume)] + self.AFTER)
                    early = ask(before + [deliver(0, 4), record_delivery(1, 7, 0, volume)] + rest + self.AFTER)
                    with self.subTest(volume=volume, between=between, closing=closing):
                        self.assertEqual(late[-9:], early[-9:])

    def test_bills_in_between_change_nothing_about_amounts_due(self):
        after = [contract_value(number) for number in range(3)]
        late = ask(THREE + [deliver(0, 4), create_bill(0), correct_delivery(0, 9), create_bill(0), set_index(6, 70)]
                   + after + [balance(bidder) for bidder in range(5)])
        early = ask(THREE + [set_index(6, 70), deliver(0, 9), create_bill(0)] + after
                    + [balance(bidder) for bidder in range(5)])
        self.assertEqual(late[-8:], early[-8:])

    def test_a_late_index_as_if_set_from_the_beginning(self):
        deliveries = [set_day(20), deliver(0, 4), record_delivery(1, 7, 0, 13), record_delivery(0, 15, 0, 8),
                      record_delivery(2, 20, 0, 21), close_contract(2)]
        for day in (0, 5, 6, 7, 10, 15, 20, 21):
            for others in ([], [set_index(6, 900), set_index(14, 1200)]):
                for between in ([], [set_index(day, 3)]):
                    if between and others and day in (6, 14):
                        continue
                    early = ask(others + [set_index(day, 1700)] + THREE + deliveries + self.AFTER)
                    late = ask(others + THREE + deliveries + between + [set_index(day, 1700)] + self.AFTER)
                    with self.subTest(day=day, others=others, between=between):
                        self.assertEqual(late[-9:], early[-9:])

    def test_random(self):
        for seed in range(200):
            draw = random.Random(seed)
            sale = sold([[100, 200], [300, 400]], [([0], [70, 90], [0, 1, 1, 2]), ([1], [110, 130], [2, 3, 0, 1]),
                                                   ([0, 1], [50, 60], [3, 1])],
                        draw.randint(0, 1), draw.randint(0, 1000), 5)
            volumes = [draw.randint(0, 900) for count in range(8)]
            places = [(draw.randrange(2), draw.randint(6, 12), draw.randrange(2)) for count in range(8)]
            days = {day: draw.randint(1, 10000) for day in draw.sample(range(14), 6)}
            after = [contract_value(number) for number in range(2)] + [create_bill(number) for number in range(2)]
            early = sale + [set_day(12)] + [set_index(day, value) for day, value in days.items()]
            early += [record_delivery(*place, volume) for place, volume in zip(places, volumes)]
            late = sale + [set_day(12)] + [record_delivery(*place, draw.randint(0, 900)) for place in places]
            changes = [correct_delivery(number, volume) for number, volume in enumerate(volumes)]
            changes += [set_index(day, value) for day, value in days.items()]
            draw.shuffle(changes)
            ahead = [correct_delivery(draw.randrange(8), draw.randint(0, 900)) for count in range(4)]
            ahead += [set_index(day, 8) for day in days]
            with self.subTest(seed=seed):
                self.assertEqual(ask(late + ahead + changes + after)[-4:], ask(early + after)[-4:])


class Requests(unittest.TestCase):
    CALLS = request(OPEN + [set_index(6, 1200), deliver(0, 80), create_bill(0), correct_delivery(0, 70),
                            create_bill(0), record_payment(3, 9), balance(3), list_bills(0), close_contract(0),
                            [11, 0], [21, 0], contract_value(0), [20, 16], [18, 9]])

    def test_what_is_handed_in_stays(self):
        calls = list(self.CALLS)
        answers(calls)
        self.assertEqual(calls, self.CALLS)

    def test_two_lists_do_not_know_of_one_another(self):
        first = answers(list(self.CALLS))
        self.assertEqual(answers(list(self.CALLS)), first)
        self.assertEqual(ask([balance(3), list_bills(0), [11, 0], correct_delivery(0, 1)]), [[0, 0], [-3], [-3], [-3]])
        self.assertEqual(ask(BARE + [deliver(0, 30), contract_value(0)])[-1], [0, 100, 1, 30, 1, 30])
        self.assertEqual(ask([set_index(day, 1) for day in range(1, 17)]), [[0]] * 16)
        first.clear()
        self.assertEqual(len(split_results(answers(list(self.CALLS)))), len(OPEN) + 14)

    def test_answers_are_plain_whole_numbers(self):
        told = answers(list(self.CALLS))
        self.assertIs(type(told), list)
        self.assertEqual({type(number) for number in told}, {int})


if __name__ == "__main__":
    unittest.main()
