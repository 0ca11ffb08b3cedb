"""Operations 6 to 10: what is told after the closing day, and the award."""

import unittest

from tests.helper import HUGE, CallTest, add_lot, ask, award, best_selection, check_selection, list_bids, open_sale
from tests.helper import place_bid, proceed, set_day, set_limit, state_after, threshold, withdraw_bid
from timberbids.auction import factor_of
from timberbids.selection import all_selections


def lots(count, reserve=0):
    return [add_lot(reserve, [1000])] * count


def single_bids(prices):
    """Bid k is for lot k alone."""
    return [place_bid([lot], [price], [0, 1]) for lot, price in enumerate(prices)]


ONE_BID = [open_sale(5)] + lots(1) + single_bids([3])
TWELVE_BIDS = [open_sale(5)] + lots(1) + [place_bid([0], [1], [0, 1])] * 12
OVER = [set_day(6)]
EVALUATIONS = [list_bids(), check_selection([]), check_selection([0]), best_selection(), threshold(0), award()]


class WhenItIsPossible(CallTest):
    def test_without_a_sale(self):
        for call in EVALUATIONS:
            self.refused(-3, [], call)
            self.refused(-3, [set_day(9)], call)
            self.refused(-3, ONE_BID + OVER + [award()], call)

    def test_up_to_the_closing_day(self):
        for call in EVALUATIONS:
            self.refused(-4, ONE_BID, call)
            self.refused(-4, ONE_BID + [set_day(5)], call)
        for call in (list_bids(), check_selection([]), best_selection(), award()):
            self.refused(-4, [open_sale()], call)

    def test_on_the_next_day_and_later(self):
        for day in (6, 7, 99999):
            self.told([1, 3000, 0, 1], ONE_BID + [set_day(day)], list_bids())
            self.told([0, 0, 3000], ONE_BID + [set_day(day)], check_selection([0]))
            self.told([3000, 0], ONE_BID + [set_day(day)], best_selection())
            self.told([0], ONE_BID + [set_day(day)], threshold(0))
            self.answered([1, 0], ONE_BID + [set_day(day)], award())

    def test_the_last_day_never_passes(self):
        for call in EVALUATIONS:
            self.refused(-4, [open_sale(99999)] + lots(1) + single_bids([3]) + [set_day(99999)], call)


class ListBids(CallTest):
    def test_no_bid(self):
        self.told([0], [open_sale(0), set_day(1)], list_bids())
        self.told([0], [open_sale(0)] + lots(3) + [set_day(1)], list_bids())

    def test_reserve(self):
        calls = [open_sale(5)] + lots(3, 4) + single_bids([3, 4, 5]) + OVER
        self.told([3, 3000, 0, 0, 4000, 0, 1, 5000, 0, 1], calls, list_bids())
        calls = [open_sale(5)] + lots(2, 4) + [place_bid([0, 1], [price], [0, 1]) for price in (3, 4)] + OVER
        self.told([2, 6000, 0, 0, 8000, 0, 1], calls, list_bids())

    def test_a_millicent_below_the_reserve(self):
        calls = [open_sale(5), add_lot(1, [999, 1])]
        calls += [place_bid([0], prices, [0, 1]) for prices in ([1], [1, 1], [1, 2])]
        self.told([3, 999, 0, 0, 1000, 0, 1, 1001, 0, 1], calls + OVER, list_bids())

    def test_withdrawn(self):
        calls = [open_sale(5)] + lots(2, 4) + single_bids([3, 4]) + [withdraw_bid(0), withdraw_bid(1)] + OVER
        self.told([2, 3000, 1, 0, 4000, 1, 0], calls, list_bids())

    def test_a_limit_does_not_matter(self):
        self.told([1, 3000, 0, 1], ONE_BID + [set_limit(0, 0)] + OVER, list_bids())

    def test_value_0(self):
        self.told([1, 0, 0, 1], [open_sale(5)] + lots(1) + single_bids([0]) + OVER, list_bids())
        self.told([1, 0, 0, 0], [open_sale(5)] + lots(1, 1) + single_bids([0]) + OVER, list_bids())


class CheckSelection(CallTest):
    # Bids 0, 1, 2 are for one lot each, bid 3 is below its reserve, bid 4 is
    # withdrawn, bids 5 and 6 share lots with others.
    CALLS = [
        open_sale(5), add_lot(0, [1000]), add_lot(0, [1000]), add_lot(0, [1000]), add_lot(9, [1000]),
        place_bid([0], [1], [1, 1, 2, 1]), place_bid([1], [2], [2, 1, 1, 1]), place_bid([2], [4], [2, 1, 3, 1]),
        place_bid([3], [8], [2, 1]), place_bid([2], [9], [2, 1]), place_bid([2, 1], [3], [4, 1]),
        place_bid([1, 2, 0], [3], [5, 1]), withdraw_bid(4),
    ]

    def test_selections(self):
        for bids, value in (([], 0), ([0], 1000), ([2, 0], 5000), ([2, 1, 0], 7000), ([5, 0], 7000), ([6], 9000)):
            self.told([0, 0, value], self.CALLS + OVER, check_selection(bids))

    def test_not_admissible(self):
        for bids, bid in (([3], 3), ([4], 4), ([0, 4, 3], 4), ([3, 0, 4], 3), ([6, 5, 3], 3)):
            self.told([0, 1, bid], self.CALLS + OVER, check_selection(bids))

    def test_shared_lot(self):
        for bids, lot in (([2, 5], 2), ([5, 1], 1), ([5, 6], 1), ([6, 5, 2], 1), ([6, 2, 1, 0], 0), ([2, 6, 0], 0)):
            self.told([0, 2, lot], self.CALLS + OVER, check_selection(bids))

    def test_bidder_over_the_limit(self):
        limits = [set_limit(1, 1), set_limit(2, 2), set_limit(3, 0)]
        for bids, status in (([0, 1], [3, 1]), ([0, 1, 2], [3, 1]), ([0, 2], [3, 3]), ([2], [3, 3]),
                             ([0], [0, 1000]), ([1], [0, 2000]), ([0, 5], [0, 7000])):
            self.told([0] + status, self.CALLS + limits + OVER, check_selection(bids))
        self.told([0, 3, 2], self.CALLS + [set_limit(2, 2)] + OVER, check_selection([2, 1, 0]))
        self.told([0, 3, 5], self.CALLS + [set_limit(5, 0)] + OVER, check_selection([6]))

    def test_first_row_that_applies(self):
        limits = [set_limit(2, 0), set_limit(1, 0)]
        self.told([0, 1, 4], self.CALLS + limits + OVER, check_selection([0, 6, 4, 3]))
        self.told([0, 2, 0], self.CALLS + limits + OVER, check_selection([6, 0]))
        self.told([0, 3, 1], self.CALLS + limits + OVER, check_selection([2, 0]))

    def test_every_limit(self):
        calls = [open_sale(5)] + lots(10) + single_bids([1] * 10)
        for limit in range(13):
            for count in range(11):
                status = [3, 0] if count > limit else [0, 1000 * count]
                self.told([0] + status, calls + [set_limit(0, limit)] + OVER, check_selection(list(range(count))))

    def test_twelve_bids_are_listed(self):
        self.told([0, 2, 0], TWELVE_BIDS + OVER, check_selection(list(range(12))))

    def test_too_long(self):
        for length in (13, 14, 40):
            self.refused(-1, TWELVE_BIDS + OVER, check_selection(list(range(length))))
            self.refused(-1, TWELVE_BIDS + OVER, check_selection([0] * length))

    def test_missing(self):
        for bids in ([1], [HUGE], [0, 1], [1, 0], [HUGE] * 12):
            self.refused(-3, ONE_BID + OVER, check_selection(bids))
        self.refused(-3, [open_sale(5)] + OVER, check_selection([0]))

    def test_listed_twice(self):
        self.refused(-4, ONE_BID + OVER, check_selection([0, 0]))
        self.refused(-4, TWELVE_BIDS + OVER, check_selection([3, 4, 5, 3]))
        self.refused(-4, TWELVE_BIDS + OVER, check_selection([3] * 12))

    def test_order_of_errors(self):
        for calls in ([], ONE_BID, ONE_BID + OVER):
            self.refused(-1, calls, check_selection([7] * 13))
            self.refused(-3, calls, check_selection([7] * 12))
        self.refused(-3, ONE_BID, check_selection([0, 0, 1]))
        self.refused(-3, [], check_selection([]))
        self.refused(-4, ONE_BID, check_selection([0, 0]))


class BestSelection(CallTest):
    def best(self, result, bids, limits=(), lot_count=4):
        self.told(result, [open_sale(5)] + lots(lot_count) + bids + list(limits) + OVER, best_selection())

    def bid(self, numbers, price, *bidders):
        return place_bid(numbers, [price], [number for bidder in bidders or (0,) for number in (bidder, 1)])

    def test_no_bid(self):
        self.best([0], [])
        self.told([0], [open_sale(5)] + OVER, best_selection())

    def test_no_admissible_bid(self):
        self.told([0], ONE_BID + [withdraw_bid(0)] + OVER, best_selection())
        self.told([0], [open_sale(5)] + lots(1, 4) + single_bids([3]) + OVER, best_selection())

    def test_bids_together_against_a_package(self):
        self.best([7000, 0, 1], [self.bid([0], 3), self.bid([1], 4), self.bid([0, 1], 3)])
        self.best([8000, 2], [self.bid([0], 3), self.bid([1], 4), self.bid([0, 1], 4)])

    def test_fewest_bids_on_a_tie(self):
        self.best([6000, 2], [self.bid([0], 2), self.bid([1], 4), self.bid([0, 1], 3)])
        self.best([6000, 0], [self.bid([0, 1], 3), self.bid([0], 2), self.bid([1], 4)])
        self.best([6000, 2, 3], [self.bid([0], 1), self.bid([1], 1), self.bid([0, 1], 1), self.bid([2], 4)])

    def test_smallest_list_on_a_tie(self):
        self.best([3000, 0], [self.bid([0], 3), self.bid([0], 3), self.bid([0], 3)])
        self.best([5000, 0, 2], [self.bid([0], 3), self.bid([0], 3), self.bid([1], 2), self.bid([1], 2)])
        crossed = [self.bid([0, 1], 1), self.bid([0, 2], 1), self.bid([1, 3], 2)]
        self.best([6000, 0, 3], crossed + [self.bid([2, 3], 2)])
        self.best([6000, 0, 5], crossed + [self.bid([0], 0), self.bid([3], 1), self.bid([2, 3], 2)])

    def test_value_0_is_left_out(self):
        self.best([0], [self.bid([0], 0)])
        self.best([4000, 1], [self.bid([0], 0), self.bid([1], 4), self.bid([2], 0)])

    def test_limits(self):
        bids = [self.bid([0], 3, 1), self.bid([1], 4, 1, 2), self.bid([2], 5, 2), self.bid([3], 1, 3)]
        self.best([13000, 0, 1, 2, 3], bids)
        self.best([9000, 0, 2, 3], bids, [set_limit(1, 1), set_limit(2, 1)])
        self.best([10000, 1, 2, 3], bids, [set_limit(1, 1)])
        self.best([6000, 2, 3], bids, [set_limit(1, 0)])
        self.best([1000, 3], bids, [set_limit(1, 0), set_limit(2, 0)])
        self.best([0], bids, [set_limit(1, 0), set_limit(2, 0), set_limit(3, 0)])

    def test_every_limit(self):
        bids = single_bids(range(1, 11))
        for limit in range(13):
            chosen = list(range(10 - min(limit, 10), 10))
            self.best([1000 * sum(bid + 1 for bid in chosen)] + chosen, bids, [set_limit(0, limit)], 10)

    def test_withdrawn(self):
        bids = [self.bid([0], 3), self.bid([0], 5), self.bid([0], 4), withdraw_bid(1)]
        self.best([4000, 2], bids)


class Threshold(CallTest):
    def test_reserve(self):
        self.told([2000], [open_sale(5)] + lots(1, 2) + single_bids([3]) + OVER, threshold(0))
        self.told([3000], [open_sale(5)] + lots(1, 3) + single_bids([3]) + OVER, threshold(0))

    def test_next_best(self):
        calls = [open_sale(5)] + lots(1, 2) + [place_bid([0], [price], [0, 1]) for price in (3, 9, 5, 1)]
        self.told([5000], calls + OVER, threshold(1))
        self.told([3000], calls + [withdraw_bid(2)] + OVER, threshold(1))
        self.told([2000], calls + [withdraw_bid(2), withdraw_bid(0)] + OVER, threshold(1))

    def test_together_against_a_package(self):
        calls = [open_sale(5)] + lots(2, 1) + single_bids([6, 5]) + [place_bid([0, 1], [4], [1, 1])] + OVER
        self.told([3000], calls, threshold(0))
        self.told([2000], calls, threshold(1))
        self.refused(-4, calls, threshold(2))

    def test_both_rules_alike(self):
        for rule in (0, 1):
            calls = [open_sale(5, rule)] + lots(1) + [place_bid([0], [price], [0, 1]) for price in (3, 9)] + OVER
            self.told([3000], calls, threshold(1))

    def test_a_limit_makes_bids_rivals(self):
        calls = [open_sale(5)] + lots(2) + single_bids([3, 5])
        self.told([0], calls + OVER, threshold(1))
        self.told([3000], calls + [set_limit(0, 1)] + OVER, threshold(1))

    def test_on_a_tie(self):
        calls = [open_sale(5)] + lots(1) + [place_bid([0], [3], [0, 1])] * 2 + OVER
        self.told([3000], calls, threshold(0))
        self.refused(-4, calls, threshold(1))

    def test_missing(self):
        for bid in (1, 12, HUGE):
            self.refused(-3, ONE_BID + OVER, threshold(bid))
            self.refused(-3, ONE_BID, threshold(bid))
            self.refused(-3, [], threshold(bid))
        self.refused(-3, [open_sale(5)] + OVER, threshold(0))

    def test_not_in_the_best_selection(self):
        self.refused(-4, ONE_BID + [withdraw_bid(0)] + OVER, threshold(0))
        self.refused(-4, ONE_BID + [set_limit(0, 0)] + OVER, threshold(0))
        self.refused(-4, [open_sale(5)] + lots(1, 4) + single_bids([3]) + OVER, threshold(0))
        self.refused(-4, [open_sale(5)] + lots(1) + single_bids([0]) + OVER, threshold(0))


class Award(CallTest):
    def test_no_bid(self):
        for calls in ([open_sale(5)], [open_sale(5)] + lots(2), ONE_BID + [withdraw_bid(0)],
                      [open_sale(5)] + lots(1) + single_bids([0])):
            state = self.answered([0, 0], calls + OVER, award())
            self.assertEqual((state.contracts, state.sale), ([], None))
        self.assertEqual(ask(ONE_BID + OVER + [award(), open_sale(6), set_day(7), award()])[-1], [0, 1])

    def test_several_contracts(self):
        calls = [open_sale(5, 1, 300), add_lot(1, [1000, 7]), add_lot(0, [0, 0, 2000]), add_lot(2, [1000] * 10)]
        calls += [place_bid([2], [2] * 10, [7, 3]), place_bid([0], [3], [4, 5, 2, 9, 1, 1]),
                  place_bid([0], [2], [8, 1]), place_bid([1], [9, 9, 9], [15, 1000, 0, 1])]
        state = self.answered([3, 0], calls + [set_day(9)], award())
        zero = [0] * 10
        self.assertEqual([contract.volumes for contract in state.contracts],
                         [[1000] * 10, [1000, 7] + zero[2:], [0, 0, 2000] + zero[3:]])
        self.assertEqual([contract.prices for contract in state.contracts],
                         [[2] * 10, [3] + zero[1:], [9, 9, 9] + zero[3:]])
        self.assertEqual([contract.bidders for contract in state.contracts],
                         [[(7, 3)], [(4, 5), (2, 9), (1, 1)], [(15, 1000), (0, 1)]])
        self.assertEqual([contract.factor for contract in state.contracts], [(1, 10), (2, 3), (0, 1)])
        for contract in state.contracts:
            self.assertEqual((contract.day, contract.advance, contract.closed), (9, 300, False))

    def test_factor_with_rule_0(self):
        calls = [open_sale(5, 0)] + lots(2, 1) + single_bids([4, 6])
        state = self.answered([2, 0], calls + OVER, award())
        self.assertEqual([contract.factor for contract in state.contracts], [(1, 1), (1, 1)])

    def test_factor_1_with_rule_1(self):
        state = self.answered([1, 0], [open_sale(5, 1)] + lots(1, 4) + single_bids([4]) + OVER, award())
        self.assertEqual(state.contracts[0].factor, (1, 1))

    def test_factor_of_a_small_value(self):
        calls = [open_sale(5, 1), add_lot(0, [1])]
        state = self.answered([1, 0], calls + single_bids([1]) + OVER, award())
        self.assertEqual(state.contracts[0].factor, (0, 1))
        # A bid of value 0 is never in a best selection; its factor is told all the same.
        sale = state_after(calls + single_bids([0]) + OVER).sale
        self.assertEqual(factor_of(sale, all_selections(sale), 0), (1, 1))

    def test_volumes_of_a_package(self):
        calls = [open_sale(5), add_lot(0, [1, 2]), add_lot(0, [500]), add_lot(0, [10, 0, 30])]
        calls += [place_bid([2, 0], [5], [0, 1])] + OVER
        state = self.answered([1, 0], calls, award())
        self.assertEqual(state.contracts[0].volumes, [11, 2, 30, 0, 0, 0, 0, 0, 0, 0])

    def test_closes_the_sale(self):
        calls = ONE_BID + OVER + [award()]
        self.refused(-3, calls, award())
        self.refused(-3, calls, list_bids())
        self.answered([0], calls, open_sale(6))

    def test_numbers_go_on_across_sales(self):
        state = state_after([])
        firsts = []
        for day in range(0, 8, 2):
            calls = [open_sale(day)] + lots(3) + single_bids([1, 2, 3]) + [set_day(day + 1), award()]
            firsts.append(proceed(state, calls)[-1])
        self.assertEqual(firsts, [[3, 0], [3, 3], [3, 6], [3, 9]])
        self.assertEqual([contract.day for contract in state.contracts], [1] * 3 + [3] * 3 + [5] * 3 + [7] * 3)

    def full_sale(self, day, count):
        return [open_sale(day)] + lots(count) + single_bids([1] * count) + [set_day(day + 1)]

    def test_twenty_four_contracts(self):
        calls = self.full_sale(0, 10) + [award()] + self.full_sale(1, 10) + [award()]
        self.answered([4, 20], calls + self.full_sale(2, 4), award())
        full = calls + self.full_sale(2, 4) + [award()]
        self.answered([0, 24], full + self.full_sale(3, 0), award())
        self.refused(-9, full + self.full_sale(3, 1), award())

    def test_more_than_twenty_four_contracts(self):
        calls = self.full_sale(0, 10) + [award()] + self.full_sale(1, 10) + [award()] + self.full_sale(2, 5)
        self.assertEqual(len(calls), 58)
        self.refused(-9, calls, award())
        self.assertEqual(ask(calls + [award(), best_selection()])[-2:], [[-9], [5000, 0, 1, 2, 3, 4]])

    def test_order_of_errors(self):
        calls = self.full_sale(0, 10) + [award()] + self.full_sale(1, 10) + [award()]
        state = state_after(calls + self.full_sale(2, 4) + [award()])
        self.assertEqual(proceed(state, [award()]), [[-3]])
        sale = [open_sale(9)] + lots(1) + single_bids([1])
        self.assertEqual(proceed(state, sale + [award()])[-1], [-4])
        self.assertEqual(proceed(state, [set_day(10), award()])[-1], [-9])


if __name__ == "__main__":
    unittest.main()
