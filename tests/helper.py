"""What the tests share: how calls are written and asked, and the document's definitions word by word."""

import itertools
import random
import unittest

from timberbids.desk import Reader, answer_next, answers
from timberbids.records import State

HUGE = 4294967295


def set_day(day):
    return [0, day]


def open_sale(closing_day=0, rule=0, advance=0):
    return [1, closing_day, rule, advance]


def add_lot(reserve, volumes):
    return [2, reserve, len(volumes)] + volumes


def set_limit(bidder, limit):
    return [3, bidder, limit]


def place_bid(lots, prices, bidders):
    return [4, len(lots)] + lots + [len(prices)] + prices + [len(bidders)] + bidders


def withdraw_bid(bid):
    return [5, bid]


def list_bids():
    return [6]


def check_selection(bids):
    return [7, len(bids)] + bids


def best_selection():
    return [8]


def threshold(bid):
    return [9, bid]


def award():
    return [10]


def get_contract(contract):
    return [11, contract]


def set_index(day, index):
    return [12, day, index]


def record_delivery(contract, day, grade, volume):
    return [13, contract, day, grade, volume]


def correct_delivery(delivery, volume):
    return [14, delivery, volume]


def close_contract(contract):
    return [15, contract]


def contract_value(contract):
    return [16, contract]


def create_bill(contract):
    return [17, contract]


def list_bills(contract):
    return [18, contract]


def record_payment(bidder, amount):
    return [19, bidder, amount]


def balance(bidder):
    return [20, bidder]


def shortfall(contract):
    return [21, contract]


def sold(lots, bids, rule=0, advance=0, day=0):
    """The calls of a sale that is opened and closes on the day, up to its award on the next day.

    A lot is a list of volumes or, with a reserve, a tuple of both; a bid has lots, prices and bidders.
    """
    calls = [set_day(day), open_sale(day, rule, advance)]
    calls += [add_lot(*lot) if isinstance(lot, tuple) else add_lot(0, lot) for lot in lots]
    calls += [place_bid(*bid) for bid in bids]
    return calls + [set_day(day + 1), award()]


def request(calls):
    return [number for call in calls for number in call]


def split_results(told):
    results = []
    place = 0
    while place < len(told):
        length = told[place]
        results.append(told[place + 1:place + 1 + length])
        assert len(results[-1]) == length
        place += 1 + length
    return results


def ask(calls):
    """What each of the calls answers."""
    results = split_results(answers(request(calls)))
    assert len(results) == len(calls)
    return results


def proceed(state, calls):
    """Answers the calls on a state that a test wants to look into."""
    reader = Reader(request(calls))
    return [answer_next(state, reader) for call in calls]


def state_after(calls):
    """A state after calls none of which may fail."""
    state = State()
    for call, result in zip(calls, proceed(state, calls)):
        assert result[0] >= 0, (call, result)
    return state


def picture(thing):
    """All that an object holds, to be compared."""
    if isinstance(thing, (list, tuple)):
        return [picture(part) for part in thing]
    if isinstance(thing, dict):
        return {name: picture(part) for name, part in thing.items()}
    if hasattr(thing, "__dict__"):
        return {name: picture(part) for name, part in vars(thing).items()}
    return thing


class CallTest(unittest.TestCase):
    """Tests of single calls behind others that went well."""

    def answered(self, result, before, call):
        """The call answers the result; gives back the state behind it."""
        state = state_after(before)
        with self.subTest(before=before, call=call):
            self.assertEqual(proceed(state, [call]), [result])
            self.assertEqual(ask(before + [call])[-1], result)
        return state

    def refused(self, code, before, call):
        """The call answers the code alone and changes nothing."""
        state = state_after(before)
        unchanged = picture(state)
        with self.subTest(before=before, call=call):
            self.assertEqual(proceed(state, [call]), [[code]])
            self.assertEqual(picture(state), unchanged)
            self.assertEqual(ask(before + [call])[-1], [code])

    def told(self, result, before, call):
        """The call answers the result and changes nothing."""
        state = state_after(before)
        unchanged = picture(state)
        with self.subTest(before=before, call=call):
            self.assertEqual(proceed(state, [call, call]), [result, result])
            self.assertEqual(picture(state), unchanged)


class Model:
    """A sale as plain data, judged by the document's definitions."""

    def __init__(self, lots, bids, limits=None, withdrawn=(), rule=0, advance=0):
        self.lots = lots
        self.bids = bids
        self.limits = limits or {}
        self.withdrawn = set(withdrawn)
        self.rule = rule
        self.advance = advance

    def calls(self, closing_day=0):
        """The calls up to the day after the closing day."""
        calls = [open_sale(closing_day, self.rule, self.advance)]
        calls += [add_lot(reserve, volumes) for reserve, volumes in self.lots]
        calls += [set_limit(bidder, limit) for bidder, limit in self.limits.items()]
        calls += [place_bid(*bid) for bid in self.bids]
        calls += [withdraw_bid(bid) for bid in sorted(self.withdrawn)]
        return calls + [set_day(closing_day + 1)]

    def value(self, number):
        lots, prices, bidders = self.bids[number]
        return sum(volume * price for lot in lots for volume, price in zip(self.lots[lot][1], prices))

    def reserve(self, number):
        return 1000 * sum(self.lots[lot][0] for lot in self.bids[number][0])

    def admissible(self, number):
        return number not in self.withdrawn and self.value(number) >= self.reserve(number)

    def status(self, numbers):
        for number in numbers:
            if not self.admissible(number):
                return [1, number]
        lots = [lot for number in numbers for lot in self.bids[number][0]]
        for lot in sorted(lots):
            if lots.count(lot) > 1:
                return [2, lot]
        bidders = [bidder for number in numbers for bidder in self.bids[number][2][::2]]
        for bidder in sorted(bidders):
            if bidders.count(bidder) > self.limits.get(bidder, 12):
                return [3, bidder]
        return [0, sum(self.value(number) for number in numbers)]

    def selections(self):
        """All selections, the fewest bids first, then lexicographically."""
        found = []
        for size in range(len(self.bids) + 1):
            for numbers in itertools.combinations(range(len(self.bids)), size):
                if self.status(numbers)[0] == 0:
                    found.append(list(numbers))
        return found

    def total(self, numbers):
        return sum(self.value(number) for number in numbers)

    def best(self):
        best = []
        for numbers in self.selections():
            if self.total(numbers) > self.total(best):
                best = numbers
        return best

    def threshold(self, number):
        rest = Model(self.lots, self.bids, self.limits, self.withdrawn | {number})
        others = self.total(self.best()) - self.value(number)
        return max(self.reserve(number), rest.total(rest.best()) - others)

    def bid_list(self):
        told = [len(self.bids)]
        for number in range(len(self.bids)):
            told += [self.value(number), int(number in self.withdrawn), int(self.admissible(number))]
        return told


def random_model(seed, most_lots=5, most_bids=6, prices=(0, 1, 1, 2, 3), reserves=(0, 0, 1, 2, 5)):
    """A small sale with few different values, so that ties are frequent."""
    draw = random.Random(seed)
    lots = []
    for lot in range(draw.randint(1, most_lots)):
        volumes = [draw.choice((0, 1000, 1000, 2000)) for grade in range(draw.randint(1, 3))]
        lots.append((draw.choice(reserves), volumes))
    bids = []
    for bid in range(draw.randint(0, most_bids)):
        chosen = draw.sample(range(len(lots)), draw.randint(1, min(3, len(lots))))
        members = draw.sample(range(5), draw.randint(1, 3))
        bidders = [number for bidder in members for number in (bidder, draw.randint(1, 9))]
        bids.append((chosen, [draw.choice(prices) for grade in range(draw.randint(1, 3))], bidders))
    limits = {bidder: draw.randint(0, 3) for bidder in draw.sample(range(5), draw.randint(0, 3))}
    withdrawn = [bid for bid in range(len(bids)) if draw.random() < 0.15]
    return Model(lots, bids, limits, withdrawn, draw.randint(0, 1), draw.randint(0, 1000))
