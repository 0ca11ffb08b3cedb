"""Operations 0 to 5: days, sales, lots, limits, bids; their ranges, errors and the order of errors."""

import unittest

from tests.helper import HUGE, CallTest, add_lot, ask, award, best_selection, check_selection, list_bids, open_sale
from tests.helper import place_bid, set_day, set_limit, state_after, threshold, withdraw_bid

ONE_LOT = [open_sale(5), add_lot(0, [1000])]
TEN_LOTS = [open_sale(5)] + [add_lot(0, [1000])] * 10
ONE_BID = ONE_LOT + [place_bid([0], [1], [0, 1])]
TWELVE_BIDS = ONE_LOT + [place_bid([0], [1], [0, 1])] * 12
TOO_LONG = (11, 12, 13, 40)


class SetDay(CallTest):
    def test_moves_forward(self):
        self.assertEqual(ask([set_day(0), set_day(0), set_day(7), set_day(7), set_day(99999), set_day(99999)]),
                         [[0]] * 6)
        self.assertEqual(state_after([set_day(7)]).day, 7)

    def test_out_of_range(self):
        for day in (100000, HUGE):
            self.refused(-1, [], set_day(day))
            self.refused(-1, [set_day(99999)], set_day(day))

    def test_before_the_current_day(self):
        for day in (0, 6):
            self.refused(-4, [set_day(7)], set_day(day))
        self.refused(-4, [set_day(99999)], set_day(99998))


class OpenSale(CallTest):
    def test_edges(self):
        for closing_day in (0, 1, 99999):
            for rule in (0, 1):
                for advance in (0, 1, 999, 1000):
                    self.answered([0], [], open_sale(closing_day, rule, advance))
        self.answered([0], [set_day(7)], open_sale(7))
        self.answered([0], [set_day(99999)], open_sale(99999))

    def test_out_of_range(self):
        for call in (open_sale(100000), open_sale(HUGE), open_sale(0, 2), open_sale(0, HUGE),
                     open_sale(0, 0, 1001), open_sale(0, 0, HUGE), open_sale(HUGE, HUGE, HUGE)):
            self.refused(-1, [], call)

    def test_a_sale_is_open(self):
        self.refused(-8, [open_sale(5)], open_sale(6))
        self.refused(-8, [open_sale(5), set_day(6)], open_sale(6))

    def test_closing_day_before_the_current_day(self):
        self.refused(-4, [set_day(7)], open_sale(6))
        self.refused(-4, [set_day(99999)], open_sale(0))

    def test_order_of_errors(self):
        self.refused(-1, [set_day(7), open_sale(9)], open_sale(6, 2))
        self.refused(-1, [set_day(7)], open_sale(6, 0, 1001))
        self.refused(-1, [open_sale(9)], open_sale(100000))
        self.refused(-8, [set_day(7), open_sale(9)], open_sale(6))

    def test_starts_without_lots_bids_and_limits(self):
        calls = ONE_BID + [set_limit(0, 0), set_limit(15, 3), set_day(6), award(), open_sale(8)]
        sale = state_after(calls).sale
        self.assertEqual((sale.lots, sale.bids, sale.limits), ([], [], [12] * 16))
        self.answered([0], calls, add_lot(0, [1]))
        self.refused(-3, calls, withdraw_bid(0))


class AddLot(CallTest):
    def test_numbers(self):
        self.assertEqual(ask(TEN_LOTS)[1:], [[number] for number in range(10)])

    def test_edges(self):
        for reserve in (0, 1, 999999999, 1000000000):
            self.answered([0], [open_sale()], add_lot(reserve, [0]))
        for length in range(1, 11):
            for volume in (0, 1, 999999, 1000000):
                self.answered([0], [open_sale()], add_lot(0, [volume] * length))
        self.answered([0], [open_sale(7), set_day(7)], add_lot(0, [1]))

    def test_out_of_range(self):
        for reserve in (1000000001, HUGE):
            self.refused(-1, [open_sale()], add_lot(reserve, [1]))
        for length in (0,) + TOO_LONG:
            self.refused(-1, [open_sale()], add_lot(0, [0] * length))
        for volume in (1000001, HUGE):
            for place in range(10):
                self.refused(-1, [open_sale()], add_lot(0, [0] * place + [volume]))
        self.refused(-1, [open_sale()], add_lot(HUGE, [HUGE] * 40))

    def test_no_sale(self):
        self.refused(-3, [], add_lot(0, [1]))
        self.refused(-3, [open_sale(0), set_day(1), award()], add_lot(0, [1]))

    def test_after_a_bid(self):
        self.refused(-4, ONE_BID, add_lot(0, [1]))
        self.refused(-4, ONE_BID + [withdraw_bid(0)], add_lot(0, [1]))

    def test_after_the_closing_day(self):
        self.refused(-4, [open_sale(5), set_day(6)], add_lot(0, [1]))

    def test_ten_lots(self):
        self.refused(-9, TEN_LOTS, add_lot(0, [1]))

    def test_order_of_errors(self):
        late = TEN_LOTS + [place_bid([9], [1], [0, 1]), set_day(6)]
        self.refused(-1, [], add_lot(1000000001, [1]))
        self.refused(-1, [], add_lot(0, []))
        self.refused(-1, late, add_lot(0, [1000001]))
        self.refused(-1, TEN_LOTS, add_lot(0, [0] * 11))
        self.refused(-4, late, add_lot(0, [1]))
        self.refused(-4, TEN_LOTS + [set_day(6)], add_lot(0, [1]))
        self.refused(-4, TEN_LOTS + [place_bid([9], [1], [0, 1])], add_lot(0, [1]))

    def test_other_grades_have_no_volume(self):
        sale = state_after([open_sale(), add_lot(3, [0, 5])]).sale
        self.assertEqual(sale.lots[0].volumes, [0, 5, 0, 0, 0, 0, 0, 0, 0, 0])
        self.assertEqual(sale.lots[0].reserve, 3)


class SetLimit(CallTest):
    def test_edges(self):
        for bidder in (0, 1, 14, 15):
            for limit in (0, 1, 11, 12):
                state = self.answered([0], [open_sale()], set_limit(bidder, limit))
                self.assertEqual(state.sale.limits, [12] * bidder + [limit] + [12] * (15 - bidder))
        self.answered([0], [open_sale(7), set_day(7)], set_limit(0, 1))

    def test_replaces_an_earlier_limit(self):
        state = self.answered([0], ONE_BID + [set_limit(0, 3), set_limit(0, 0)], set_limit(0, 5))
        self.assertEqual(state.sale.limits[0], 5)

    def test_out_of_range(self):
        for bidder, limit in ((16, 0), (HUGE, 0), (0, 13), (0, HUGE), (HUGE, HUGE)):
            self.refused(-1, [open_sale()], set_limit(bidder, limit))

    def test_no_sale(self):
        self.refused(-3, [], set_limit(0, 1))
        self.refused(-3, [open_sale(0), set_day(1), award()], set_limit(0, 1))

    def test_after_the_closing_day(self):
        self.refused(-4, [open_sale(5), set_day(6)], set_limit(0, 1))

    def test_order_of_errors(self):
        self.refused(-1, [], set_limit(16, 0))
        self.refused(-1, [], set_limit(0, 13))
        self.refused(-1, [open_sale(5), set_day(6)], set_limit(0, 13))


class PlaceBid(CallTest):
    def test_numbers(self):
        self.assertEqual(ask(TWELVE_BIDS)[2:], [[number] for number in range(12)])

    def test_lots_edges(self):
        for lots in ([0], [9], [3, 1], list(range(10)), list(range(9, -1, -1))):
            self.answered([0], TEN_LOTS, place_bid(lots, [1], [0, 1]))

    def test_prices_edges(self):
        for length in range(1, 11):
            for price in (0, 1, 999999, 1000000):
                self.answered([0], ONE_LOT, place_bid([0], [price] * length, [0, 1]))

    def test_bidders_edges(self):
        for bidders in ([0, 1], [15, 1000], [15, 1, 0, 1000], [1, 2, 2, 2, 3, 2], [12, 1, 13, 2, 14, 3, 15, 4]):
            self.answered([0], ONE_LOT, place_bid([0], [1], bidders))

    def test_on_the_closing_day(self):
        self.answered([0], ONE_LOT + [set_day(5)], place_bid([0], [1], [0, 1]))

    def test_wrong_lengths(self):
        for length in (0,) + TOO_LONG:
            self.refused(-1, TEN_LOTS, place_bid(list(range(length)), [1], [0, 1]))
            self.refused(-1, TEN_LOTS, place_bid([0] * length, [1], [0, 1]))
            self.refused(-1, TEN_LOTS, place_bid([0], [1] * length, [0, 1]))
        for length in (0, 1, 3, 5, 7, 9, 10, 11, 12, 39, 40):
            self.refused(-1, TEN_LOTS, place_bid([0], [1], list(range(1, length + 1))))
        self.refused(-1, TEN_LOTS, place_bid([HUGE] * 40, [HUGE] * 40, [HUGE] * 40))
        self.refused(-1, TEN_LOTS, place_bid([], [], []))

    def test_price_out_of_range(self):
        for price in (1000001, HUGE):
            for place in range(10):
                self.refused(-1, ONE_LOT, place_bid([0], [0] * place + [price], [0, 1]))

    def test_bidder_out_of_range(self):
        for bidder in (16, HUGE):
            for before in range(4):
                self.refused(-1, ONE_LOT, place_bid([0], [1], [0, 1, 1, 1, 2, 1][:2 * before] + [bidder, 1]))

    def test_weight_out_of_range(self):
        for weight in (0, 1001, HUGE):
            for before in range(4):
                self.refused(-1, ONE_LOT, place_bid([0], [1], [0, 1, 1, 1, 2, 1][:2 * before] + [3, weight]))

    def test_missing(self):
        self.refused(-3, [], place_bid([0], [1], [0, 1]))
        self.refused(-3, [open_sale()], place_bid([0], [1], [0, 1]))
        for lots in ([1], [HUGE], [0, 1], [1, 0]):
            self.refused(-3, ONE_LOT, place_bid(lots, [1], [0, 1]))
        self.refused(-3, ONE_BID + [set_day(6), award()], place_bid([0], [1], [0, 1]))
        self.refused(-3, ONE_BID + [set_day(6), award(), open_sale(6)], place_bid([0], [1], [0, 1]))

    def test_listed_twice(self):
        for lots in ([0, 0], [3, 4, 3], list(range(9)) + [8]):
            self.refused(-4, TEN_LOTS, place_bid(lots, [1], [0, 1]))
        for bidders in ([0, 1, 0, 1], [2, 1, 3, 1, 2, 5], [1, 1, 2, 1, 3, 1, 3, 1]):
            self.refused(-4, TEN_LOTS, place_bid([0], [1], bidders))

    def test_after_the_closing_day(self):
        self.refused(-4, ONE_LOT + [set_day(6)], place_bid([0], [1], [0, 1]))

    def test_twelve_bids(self):
        self.refused(-9, TWELVE_BIDS, place_bid([0], [1], [0, 1]))
        self.refused(-9, TWELVE_BIDS + [withdraw_bid(3), withdraw_bid(11)], place_bid([0], [1], [0, 1]))

    def test_order_of_errors(self):
        wrong = place_bid([9, 9], [1000001], [0, 1, 0, 1])
        for calls in ([], ONE_LOT, ONE_LOT + [set_day(6)], TWELVE_BIDS, TWELVE_BIDS + [set_day(6)]):
            self.refused(-1, calls, wrong)
            self.refused(-1, calls, place_bid([9, 9], [1], [0, 1, 0, 0]))
            self.refused(-1, calls, place_bid([9, 9], [1], [0, 1, 16, 1]))
            self.refused(-1, calls, place_bid([0] * 11, [1], [0, 1, 0, 1]))
            self.refused(-3, calls, place_bid([9, 9], [1], [0, 1, 0, 1]))
        for calls in (TWELVE_BIDS, TWELVE_BIDS + [set_day(6)]):
            self.refused(-4, calls, place_bid([0, 0], [1], [0, 1]))
            self.refused(-4, calls, place_bid([0], [1], [0, 1, 0, 1]))
        self.refused(-4, TWELVE_BIDS + [set_day(6)], place_bid([0], [1], [0, 1]))

    def test_value_and_reserve(self):
        calls = [open_sale(), add_lot(2, [1000, 20, 3]), add_lot(1, [4000, 0, 0, 0, 0, 0, 0, 0, 0, 5])]
        for lots, prices, told in (([0], [3], [3000, 0, 1]), ([0], [1, 1, 1], [1023, 0, 0]),
                                   ([1], [0] * 9 + [7], [35, 0, 0]), ([0], [0] * 9 + [7], [0, 0, 0]),
                                   ([1, 0], [1, 2, 3, 4, 5, 6, 7, 8, 9, 10], [5099, 0, 1])):
            self.answered([1] + told, calls + [place_bid(lots, prices, [0, 1]), set_day(1)], list_bids())

    def test_greatest_value(self):
        calls = [open_sale()] + [add_lot(1000000000, [1000000] * 10)] * 10
        calls += [place_bid(list(range(10)), [1000000] * 10, [0, 1]), set_day(1)]
        self.answered([1, 100000000000000, 0, 1], calls, list_bids())
        self.answered([100000000000000, 0], calls, best_selection())
        self.answered([10000000000000], calls, threshold(0))
        self.answered([0, 0, 100000000000000], calls, check_selection([0]))


class WithdrawBid(CallTest):
    def test_withdraws(self):
        self.answered([0], ONE_BID, withdraw_bid(0))
        self.answered([0], ONE_BID + [set_day(5)], withdraw_bid(0))
        self.answered([0], TWELVE_BIDS, withdraw_bid(11))

    def test_missing(self):
        for bid in (0, HUGE):
            self.refused(-3, [], withdraw_bid(bid))
            self.refused(-3, [open_sale()], withdraw_bid(bid))
        for bid in (1, 12, HUGE):
            self.refused(-3, ONE_BID, withdraw_bid(bid))
        self.refused(-3, TWELVE_BIDS, withdraw_bid(12))
        self.refused(-3, ONE_BID + [set_day(6), award()], withdraw_bid(0))

    def test_already_withdrawn(self):
        self.refused(-8, ONE_BID + [withdraw_bid(0)], withdraw_bid(0))

    def test_after_the_closing_day(self):
        self.refused(-4, ONE_BID + [set_day(6)], withdraw_bid(0))

    def test_order_of_errors(self):
        self.refused(-3, ONE_BID + [set_day(6)], withdraw_bid(1))
        self.refused(-8, ONE_BID + [withdraw_bid(0), set_day(6)], withdraw_bid(0))


if __name__ == "__main__":
    unittest.main()
