"""Operation 16 and what bills are made of: the index of a day, estimate, delivered, due and its distribution."""

import itertools
import random
import unittest
from fractions import Fraction

from tests.helper import CallTest, ask, close_contract, contract_value, correct_delivery, create_bill, open_sale
from tests.helper import record_delivery, set_day, set_index, sold, state_after
from timberbids.amounts import index_of, parts_of
from timberbids.ratio import nearest

# Awarded on day 6, with an estimate of 100 cents.
CONTRACT = sold([[1000]], [([0], [100], [1, 1])], day=5) + [set_day(30)]


def contract(volume=1000, price=1000, rule=0, advance=0, other=0):
    """A contract of day 1; the other price makes the threshold."""
    bids = [([0], [price], [1, 1])] + [([0], [other], [2, 1])] * (other > 0)
    return sold([[volume]], bids, rule, advance) + [set_day(30)]


def deliver(*volumes):
    return [record_delivery(0, 1, 0, volume) for volume in volumes]


def value_of(calls):
    """estimate, delivered and due of contract 0 after the calls."""
    told = ask(calls + [contract_value(0)])[-1]
    assert len(told) == 6 and told[0] == 0
    return [Fraction(told[1], told[2]), Fraction(told[3], told[4]), told[5]]


class IndexOfADay(CallTest):
    def index(self, expected, calls):
        """The index of days: a dict by day, looked at through deliveries of 1000 liters each."""
        state = state_after(CONTRACT + calls)
        for day, value in expected.items():
            with self.subTest(calls=calls, day=day):
                self.assertEqual(index_of(state, day), value)
        at_award = expected.get(6)
        for day, value in expected.items():
            if at_award is not None and 6 <= day <= 30:
                delivered = value_of(CONTRACT + calls + [record_delivery(0, day, 0, 1000)])[1]
                with self.subTest(calls=calls, day=day):
                    self.assertEqual(delivered, Fraction(100 * value, at_award))

    def test_none_set(self):
        self.index({0: 1000, 6: 1000, 7: 1000, 30: 1000, 99999: 1000}, [])

    def test_a_later_day_only(self):
        self.index({0: 1000, 6: 1000, 19: 1000}, [set_index(20, 1500)])
        self.index({0: 1000, 6: 1000, 30: 1000, 31: 2}, [set_index(31, 2)])
        self.index({0: 1000, 6: 1000, 30: 1000, 99998: 1000, 99999: 2}, [set_index(99999, 2)])

    def test_the_very_day(self):
        self.index({6: 1000, 19: 1000, 20: 1500, 21: 1500, 30: 1500}, [set_index(20, 1500)])
        self.index({5: 1000, 6: 1500, 7: 1500}, [set_index(6, 1500)])
        self.index({0: 7, 6: 7, 30: 7}, [set_index(0, 7)])

    def test_several(self):
        calls = [set_index(20, 1500), set_index(3, 800), set_index(10, 1200), set_index(25, 10000)]
        expected = {2: 1000, 3: 800, 6: 800, 9: 800, 10: 1200, 19: 1200, 20: 1500, 24: 1500, 25: 10000, 30: 10000}
        for order in itertools.permutations(calls):
            self.index(expected, list(order))

    def test_replaced(self):
        calls = [set_index(10, 1200), set_index(20, 1500), set_index(10, 700), set_index(20, 1), set_index(20, 900)]
        self.index({6: 1000, 9: 1000, 10: 700, 19: 700, 20: 900, 30: 900}, calls)

    def test_sixteen_days(self):
        calls = [set_index(2 * day, 1000 + day) for day in range(16)]
        expected = {day: 1000 + day // 2 for day in range(32)}
        self.index(expected, calls)
        self.index(expected, calls[::-1])
        replaced = dict(expected)
        replaced.update({14: 5, 15: 5})
        self.index(replaced, calls + [set_index(14, 5)])
        self.assertEqual(ask(calls + [set_index(31, 5)])[-1], [-9])
        state = state_after(calls)
        self.assertEqual(index_of(state, 31), 1015)

    def test_set_late_ahead_of_the_award(self):
        calls = CONTRACT + [record_delivery(0, 10, 0, 1000), set_index(8, 1300)]
        self.assertEqual(value_of(calls)[1:], [130, 130])
        self.assertEqual(value_of(calls + [set_index(6, 1200)])[1:], [Fraction(325, 3), 108])
        self.assertEqual(value_of(calls + [set_index(2, 650)])[1:], [200, 200])
        self.assertEqual(value_of(calls + [set_index(7, 650)])[1:], [130, 130])

    def test_set_late_ahead_of_a_delivery(self):
        calls = CONTRACT + [record_delivery(0, 10, 0, 1000), record_delivery(0, 20, 0, 1000)]
        self.assertEqual(value_of(calls)[1:], [200, 200])
        self.assertEqual(value_of(calls + [set_index(15, 1500)])[1:], [250, 250])
        self.assertEqual(value_of(calls + [set_index(15, 1500), set_index(9, 500)])[1:], [200, 200])
        # A value for a day ahead of the award counts for both, so that nothing changes.
        self.assertEqual(value_of(calls + [set_index(4, 500)])[1:], [200, 200])

    def test_edges(self):
        calls = CONTRACT + [record_delivery(0, 10, 0, 1000)]
        self.assertEqual(value_of(calls + [set_index(6, 1), set_index(10, 10000)])[1:], [1000000, 1000000])
        self.assertEqual(value_of(calls + [set_index(6, 10000), set_index(10, 1)])[1:], [Fraction(1, 100), 0])


class Estimate(unittest.TestCase):
    def test_rule_0(self):
        self.assertEqual(ask(contract(1000, 100) + [contract_value(0)])[-1], [0, 100, 1, 0, 1, 0])
        self.assertEqual(ask(contract(3, 7) + [contract_value(0)])[-1], [0, 21, 1000, 0, 1, 0])
        self.assertEqual(ask(contract(1000, 6, 0, 0, 4) + [contract_value(0)])[-1], [0, 6, 1, 0, 1, 0])

    def test_rule_1(self):
        self.assertEqual(ask(contract(1000, 6, 1, 0, 4) + [contract_value(0)])[-1], [0, 4, 1, 0, 1, 0])
        self.assertEqual(ask(contract(30, 6, 1, 0, 4) + [contract_value(0)])[-1], [0, 3, 25, 0, 1, 0])
        self.assertEqual(ask(contract(1000, 6, 1) + [contract_value(0)])[-1], [0, 0, 1, 0, 1, 0])

    def test_neither_deliveries_nor_index_matter(self):
        for more in (deliver(5000), [set_index(1, 3000)], [set_index(0, 3)], deliver(1) + [close_contract(0)]):
            self.assertEqual(value_of(contract(1000, 6, 1, 500, 4) + more)[0], 4)

    def test_greatest(self):
        calls = sold([[1000000] * 10] * 10, [(list(range(10)), [1000000] * 10, [0, 1])], 0, 1000)
        self.assertEqual(ask(calls + [contract_value(0)])[-1], [0, 100000000000, 1, 0, 1, 100000000000])


class Delivered(unittest.TestCase):
    def test_several_deliveries_and_grades(self):
        calls = sold([[1000] * 3], [([0], [10, 20, 30], [1, 1])])
        calls = calls + [record_delivery(0, 1, 0, 7), record_delivery(0, 1, 2, 11), record_delivery(0, 1, 0, 1),
                         record_delivery(0, 1, 9, 1000)]
        self.assertEqual(value_of(calls)[1], Fraction(80 + 330, 1000))

    def test_of_this_contract_only(self):
        calls = sold([[1000], [1000]], [([0], [3], [1, 1]), ([1], [5], [1, 1])])
        calls = calls + [record_delivery(1, 1, 0, 1000), record_delivery(0, 1, 0, 2000), record_delivery(1, 1, 0, 1)]
        self.assertEqual(ask(calls + [contract_value(0), contract_value(1)])[-2:],
                         [[0, 3, 1, 6, 1, 6], [0, 5, 1, 1001, 200, 5]])

    def test_factor_below_1(self):
        self.assertEqual(value_of(contract(1000, 6, 1, 0, 4) + deliver(1000)), [4, 4, 4])
        self.assertEqual(value_of(contract(1000, 7, 1, 0, 5) + deliver(777)), [5, Fraction(777 * 5, 1000), 4])

    def test_factor_0(self):
        self.assertEqual(ask(contract(1000, 6, 1, 1000) + deliver(1000000) + [contract_value(0)])[-1],
                         [0, 0, 1, 0, 1, 0])

    def test_lowest_terms(self):
        self.assertEqual(ask(contract(1000, 100) + deliver(250) + [contract_value(0)])[-1], [0, 100, 1, 25, 1, 25])
        self.assertEqual(ask(contract(1000, 100) + deliver(0) + [contract_value(0)])[-1], [0, 100, 1, 0, 1, 0])
        self.assertEqual(ask(contract(1000, 100) + deliver(5) + [contract_value(0)])[-1], [0, 100, 1, 1, 2, 1])
        calls = contract(1000, 100) + deliver(1000) + [set_index(1, 900), set_index(0, 7)]
        self.assertEqual(ask(calls + [contract_value(0)])[-1], [0, 100, 1, 100, 1, 100])

    def test_greatest(self):
        calls = sold([[1]], [([0], [1000000], [0, 1])], day=1)
        calls = calls + [set_day(3), set_index(2, 1), set_index(3, 10000)] + [record_delivery(0, 3, 0, 1000000)] * 64
        self.assertEqual(value_of(calls)[1:], [640000000000000, 640000000000000])

    def test_exact_where_floats_are_not(self):
        calls = sold([[1]], [([0], [1000000], [0, 1])], day=1)
        calls = calls + [set_day(3), set_index(2, 1), set_index(3, 9999)] + [record_delivery(0, 3, 0, 1000000)] * 63
        calls = calls + [record_delivery(0, 2, 0, 999999)]
        expected = 63 * 1000000 * 1000 * 9999 + 999999000
        self.assertEqual(value_of(calls)[1:], [expected, expected])


class Due(unittest.TestCase):
    def due(self, expected, calls):
        with self.subTest(calls=calls):
            self.assertEqual(value_of(calls)[2], expected)

    def test_open_below_at_and_above_the_advance(self):
        calls = contract(1000, 100, 0, 200)
        for volume, due in ((0, 20), (1, 20), (199, 20), (200, 20), (204, 20), (205, 21), (210, 21), (1000, 100),
                            (3000, 300)):
            self.due(due, calls + deliver(volume))

    def test_closed_ignores_the_advance(self):
        calls = contract(1000, 100, 0, 200)
        self.due(20, calls)
        self.due(0, calls + [close_contract(0)])
        for volume, due in ((1, 0), (5, 1), (199, 20), (150, 15), (200, 20), (1000, 100)):
            self.due(due, calls + deliver(volume) + [close_contract(0)])

    def test_advance_edges(self):
        for advance, due in ((0, 0), (1, 1), (2, 2), (999, 999), (1000, 1000)):
            self.due(due, contract(1000, 1000, 0, advance))
            self.due(0, contract(1000, 1000, 0, advance) + [close_contract(0)])
            self.due(1001, contract(1000, 1000, 0, advance) + deliver(1001))

    def test_half_a_cent_delivered(self):
        for volume, due in ((0, 0), (499, 0), (500, 1), (501, 1), (1499, 1), (1500, 2), (2499, 2), (2500, 3),
                            (3500, 4)):
            self.due(due, contract(1, 1) + deliver(volume))
            self.due(due, contract(1, 1) + deliver(volume) + [close_contract(0)])

    def test_half_a_cent_of_the_advance(self):
        for volume in (1000, 3000, 5000, 7000):
            whole = volume // 1000
            self.due((whole + 1) // 2, contract(volume, 1, 0, 500))
            self.due(whole // 2, contract(volume, 1, 0, 499))
            self.due((whole + 1) // 2, contract(volume, 1, 0, 501))

    def test_half_a_cent_by_the_index(self):
        calls = contract(1000, 1) + deliver(1000) + [record_delivery(0, 2, 0, 1000)]
        for index, due in ((499, 1), (500, 2), (501, 2), (1499, 2), (1500, 3), (2500, 4), (2499, 3)):
            self.due(due, calls + [set_index(2, index)])
        # 1000 * 1000 / 3000 of a cent, and exactly a half of 3/6 cents.
        self.due(0, contract(1000, 1) + deliver(0) + [set_index(1, 3000), set_index(2, 1000),
                                                      record_delivery(0, 2, 0, 1000)])
        self.due(1, contract(1000, 1) + [set_index(1, 2000), set_index(2, 1000), record_delivery(0, 2, 0, 1000)])
        self.due(0, contract(1000, 1) + [set_index(1, 2001), set_index(2, 1000), record_delivery(0, 2, 0, 1000)])

    def test_half_a_cent_with_a_factor_below_1(self):
        # The factor is 2/3.
        calls = contract(1000, 3, 1, 0, 2)
        for volume, due in ((249, 0), (250, 1), (749, 1), (750, 2), (1250, 3)):
            self.due(due, calls + deliver(volume))
        calls = contract(1000, 3, 1, 250, 2)
        self.due(1, calls)
        self.due(1, contract(1000, 3, 1, 749, 2))
        self.due(2, contract(1000, 3, 1, 750, 2))

    def test_rounded_once(self):
        # Two deliveries of 0.3 cents each are 0.6 cents, two of 0.5 are 1 cent.
        self.due(1, contract(1, 1) + deliver(300, 300))
        self.due(1, contract(1, 1) + deliver(500, 500))
        self.due(2, contract(1, 1) + deliver(300, 300, 300, 300, 300))

    def test_advance_of_the_estimate_at_the_threshold(self):
        self.due(500, contract(1000, 1000, 0, 500, 600))
        self.due(300, contract(1000, 1000, 1, 500, 600))
        self.due(0, contract(1000, 1000, 1, 500))

    def test_index_does_not_change_the_advance(self):
        self.due(200, contract(1000, 1000, 0, 200) + [set_index(0, 2000), set_index(2, 9000)])

    def test_nearest(self):
        for bottom in range(1, 12):
            for top in range(0, 5 * bottom):
                expected = (Fraction(top, bottom) + Fraction(1, 2)).__floor__()
                self.assertEqual(nearest((top, bottom)), expected)
        self.assertEqual(nearest((2 * 10 ** 30 + 1, 2)), 10 ** 30 + 1)
        self.assertEqual(nearest((2 * 10 ** 30 - 1, 4 * 10 ** 30)), 0)


class ContractValue(CallTest):
    def test_tells_without_a_change(self):
        calls = contract(1000, 7, 1, 333, 5) + deliver(777) + [set_index(1, 1100), create_bill(0)]
        self.told([0, 5, 1, 777, 200, 4], calls, contract_value(0))
        self.told([0, 5, 1, 777, 200, 4], calls + [close_contract(0)], contract_value(0))
        self.told([0, 5, 1, 0, 1, 2], calls + [correct_delivery(0, 0)], contract_value(0))

    def test_bills_do_not_matter(self):
        calls = contract(1000, 100, 0, 200)
        self.assertEqual(ask(calls + [create_bill(0), contract_value(0)])[-1], ask(calls + [contract_value(0)])[-1])

    def test_missing(self):
        self.refused(-3, contract(), contract_value(1))
        self.refused(-3, [open_sale()], contract_value(0))


class Distribution(unittest.TestCase):
    def billed(self, due, weights):
        """The amounts of a first bill over the due amount, each cent a delivery of a liter."""
        bidders = [number for bidder, weight in zip((9, 2, 15, 0), weights) for number in (bidder, weight)]
        calls = sold([[1]], [([0], [1000], bidders)]) + [record_delivery(0, 1, 0, due), create_bill(0)]
        told = ask(calls)[-1]
        self.assertEqual(told[0], 0)
        self.assertEqual(told[1::2], bidders[0::2])
        return told[2::2]

    def check(self, parts, due, weights):
        with self.subTest(due=due, weights=weights):
            self.assertEqual(parts_of(due, weights), parts)
            self.assertEqual(self.billed(due, weights), parts)

    def test_one_bidder(self):
        for weight in (1, 2, 1000):
            for due in (1, 2, 999, 1000000):
                self.check([due], due, [weight])
            self.assertEqual(parts_of(0, [weight]), [0])

    def test_example(self):
        self.check([60, 20], 80, [3, 1])
        self.check([198, 66], 264, [3, 1])
        self.check([179, 59], 238, [3, 1])

    def test_equal_remainders(self):
        self.check([1, 0], 1, [1, 1])
        self.check([2, 1], 3, [7, 7])
        self.check([1, 0, 0], 1, [1, 1, 1])
        self.check([1, 1, 0], 2, [1, 1, 1])
        self.check([1, 0, 0, 0], 1, [1, 1, 1, 1])
        self.check([1, 1, 0, 0], 2, [1000, 1000, 1000, 1000])
        self.check([4, 4, 4, 3], 15, [2, 2, 2, 2])
        # Remainders 1, 3, 1, 3 of 8; the earlier ones of the greater.
        self.check([0, 1, 0, 0], 1, [1, 3, 1, 3])
        self.check([0, 1, 0, 1], 2, [1, 3, 1, 3])
        # 3, 9 and 3, 9 of 8: 0, 1, 0, 1 and remainders 3, 1, 3, 1.
        self.check([1, 1, 0, 1], 3, [1, 3, 1, 3])

    def test_largest_remainder_behind(self):
        self.check([0, 1], 1, [1, 2])
        self.check([0, 0, 1], 1, [1, 1, 2])
        self.check([0, 0, 0, 1], 1, [1, 2, 3, 4])
        self.check([0, 0, 1, 1], 2, [1, 2, 3, 4])
        self.check([0, 1, 1, 1], 3, [1, 2, 3, 4])
        self.check([0, 1, 1, 2], 4, [1, 2, 3, 4])
        self.check([1, 1, 1, 2], 5, [1, 2, 3, 4])

    def test_weights_of_1_and_1000(self):
        self.check([0, 1], 1, [1, 1000])
        self.check([1, 0], 1, [1000, 1])
        self.check([0, 500], 500, [1, 1000])
        self.check([1, 500], 501, [1, 1000])
        self.check([1, 1000], 1001, [1, 1000])
        self.check([0, 1, 0, 0], 1, [1, 1000, 1, 1])
        # Remainders 1001, 1667, 1667, 1667 of 3001, and two cents remain.
        self.check([0, 334, 334, 333], 1001, [1, 1000, 1000, 1000])

    def test_random(self):
        draw = random.Random(7)
        for count in range(600):
            weights = [draw.choice((1, 1, 2, 3, 5, 999, 1000, draw.randint(1, 1000))) for place in
                       range(draw.randint(1, 4))]
            due = draw.choice((draw.randint(1, 20), draw.randint(1, 1000000)))
            self.check(self.by_hand(due, weights), due, weights)

    def by_hand(self, due, weights):
        """One cent after the other goes to the largest remainder that has none yet."""
        total = sum(weights)
        parts = [due * weight // total for weight in weights]
        remainders = [due * weight % total for weight in weights]
        while sum(parts) < due:
            place = remainders.index(max(remainders))
            parts[place] += 1
            remainders[place] = -1
        return parts


class Requirement5(unittest.TestCase):
    def test_parts_add_up_and_are_near_the_shares(self):
        draw = random.Random(5)
        for count in range(3000):
            weights = [draw.choice((1, 2, 3, 7, 1000, draw.randint(1, 1000))) for place in range(draw.randint(1, 4))]
            due = draw.choice((draw.randint(0, 30), draw.randint(0, 10 ** 15)))
            parts = parts_of(due, weights)
            with self.subTest(due=due, weights=weights):
                self.assertEqual(len(parts), len(weights))
                self.assertEqual(sum(parts), due)
                for part, weight in zip(parts, weights):
                    self.assertLess(abs(part - Fraction(due * weight, sum(weights))), 1)
                    self.assertGreaterEqual(part, 0)

    def test_nothing_due(self):
        for length in range(1, 5):
            self.assertEqual(parts_of(0, [3] * length), [0] * length)


class Requirement4(unittest.TestCase):
    def test_estimate_lies_between_reserve_and_value(self):
        draw = random.Random(4)
        below = 0
        for count in range(300):
            lots = [(draw.choice((0, 0, 1, 3)), [draw.randint(0, 3000) for grade in range(3)]) for lot in range(4)]
            bids = []
            for bid in range(6):
                bids.append((draw.sample(range(4), draw.randint(1, 3)), [draw.randint(0, 4) for grade in range(3)],
                             [draw.randint(0, 2), 1]))
            calls = sold(lots, bids, 1)
            found = ask(calls[:-1] + [[8]])[-1][1:]
            results = ask(calls + [contract_value(number) for number in range(len(found))])[len(calls):]
            for bid, told in zip(found, results):
                members = [lots[lot] for lot in bids[bid][0]]
                value = sum(volume * price for lot in members for volume, price in zip(lot[1], bids[bid][1]))
                estimate = Fraction(told[1], told[2])
                with self.subTest(count=count, bid=bid):
                    self.assertLessEqual(estimate, Fraction(value, 1000))
                    self.assertGreaterEqual(estimate, sum(lot[0] for lot in members))
                below += sum(lot[0] for lot in members) < estimate < Fraction(value, 1000)
        self.assertGreater(below, 50)


if __name__ == "__main__":
    unittest.main()
