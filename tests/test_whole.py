"""All 22 calls in one list, in any order, against the document's definitions taken word by word."""

import random
import unittest
from collections import Counter
from fractions import Fraction

from tests.helper import HUGE, Model, ask

ORDER = (-1, -3, -8, -4, -9)
BIDDER_LENGTHS = (2, 4, 6, 8)


class Refused(Exception):
    pass


def check(*conditions):
    """Each condition is a code and a test; of the codes that apply, the first in the document's order counts."""
    for code in ORDER:
        for own, test in conditions:
            if own == code and test():
                raise Refused(code)


def padded(numbers):
    return list(numbers) + [0] * (10 - len(numbers))


class Book:
    """The document's object, held as plain dicts."""

    def __init__(self):
        self.day = 0
        self.sale = None
        self.contracts, self.deliveries, self.bills = [], [], []
        self.index, self.paid = {}, Counter()
        self.steps = (self.set_day, self.open_sale, self.add_lot, self.set_limit, self.place_bid, self.withdraw_bid,
                      self.list_bids, self.check_selection, self.best_selection, self.threshold, self.award,
                      self.get_contract, self.set_index, self.record_delivery, self.correct_delivery,
                      self.close_contract, self.contract_value, self.create_bill, self.list_bills,
                      self.record_payment, self.balance, self.shortfall)

    def answer(self, step, *arguments):
        try:
            return self.steps[step](*arguments)
        except Refused as refused:
            return [refused.args[0]]

    def over(self):
        return self.day > self.sale["closing_day"]

    def no_sale(self):
        return self.sale is None

    def no_contract(self, number):
        return number >= len(self.contracts)

    def set_day(self, day):
        check((-1, lambda: day > 99999), (-4, lambda: day < self.day))
        self.day = day
        return [0]

    def open_sale(self, closing_day, rule, advance):
        check((-1, lambda: closing_day > 99999 or rule > 1 or advance > 1000), (-8, lambda: self.sale is not None),
              (-4, lambda: closing_day < self.day))
        self.sale = {"closing_day": closing_day, "model": Model([], [], {}, (), rule, advance)}
        return [0]

    def add_lot(self, reserve, volumes):
        check((-1, lambda: reserve > 10 ** 9 or not 1 <= len(volumes) <= 10 or max(volumes) > 10 ** 6),
              (-3, self.no_sale), (-4, lambda: self.sale["model"].bids or self.over()),
              (-9, lambda: len(self.sale["model"].lots) == 10))
        self.sale["model"].lots.append((reserve, volumes))
        return [len(self.sale["model"].lots) - 1]

    def set_limit(self, bidder, limit):
        check((-1, lambda: bidder > 15 or limit > 12), (-3, self.no_sale), (-4, self.over))
        self.sale["model"].limits[bidder] = limit
        return [0]

    def place_bid(self, lots, prices, bidders):
        check((-1, lambda: not 1 <= len(lots) <= 10 or not 1 <= len(prices) <= 10
               or len(bidders) not in BIDDER_LENGTHS or max(prices) > 10 ** 6 or max(bidders[::2]) > 15
               or not all(1 <= weight <= 1000 for weight in bidders[1::2])),
              (-3, lambda: self.no_sale() or max(lots) >= len(self.sale["model"].lots)),
              (-4, lambda: len(set(lots)) < len(lots) or len(set(bidders[::2])) < len(bidders[::2]) or self.over()),
              (-9, lambda: len(self.sale["model"].bids) == 12))
        self.sale["model"].bids.append((lots, prices, bidders))
        return [len(self.sale["model"].bids) - 1]

    def withdraw_bid(self, bid):
        check((-3, lambda: self.no_sale() or bid >= len(self.sale["model"].bids)),
              (-8, lambda: bid in self.sale["model"].withdrawn), (-4, self.over))
        self.sale["model"].withdrawn.add(bid)
        return [0]

    def list_bids(self):
        check((-3, self.no_sale), (-4, lambda: not self.over()))
        return self.sale["model"].bid_list()

    def check_selection(self, bids):
        check((-1, lambda: len(bids) > 12),
              (-3, lambda: self.no_sale() or any(bid >= len(self.sale["model"].bids) for bid in bids)),
              (-4, lambda: not self.over() or len(set(bids)) < len(bids)))
        return [0] + self.sale["model"].status(bids)

    def best_selection(self):
        check((-3, self.no_sale), (-4, lambda: not self.over()))
        best = self.sale["model"].best()
        return [self.sale["model"].total(best)] + best

    def threshold(self, bid):
        check((-3, lambda: self.no_sale() or bid >= len(self.sale["model"].bids)),
              (-4, lambda: not self.over() or bid not in self.sale["model"].best()))
        return [self.sale["model"].threshold(bid)]

    def award(self):
        check((-3, self.no_sale), (-4, lambda: not self.over()),
              (-9, lambda: len(self.contracts) + len(self.sale["model"].best()) > 24))
        model = self.sale["model"]
        first = len(self.contracts)
        for bid in model.best():
            lots, prices, bidders = model.bids[bid]
            value = model.value(bid)
            factor = Fraction(model.threshold(bid), value) if model.rule == 1 and value else Fraction(1)
            volumes = [sum(padded(model.lots[lot][1])[grade] for lot in lots) for grade in range(10)]
            self.contracts.append({"day": self.day, "advance": model.advance, "factor": factor, "volumes": volumes,
                                   "prices": padded(prices), "bidders": list(bidders), "closed": 0, "value": value})
        self.sale = None
        return [len(self.contracts) - first, first]

    def get_contract(self, number):
        check((-3, lambda: self.no_contract(number)))
        told = self.contracts[number]
        return [0, told["day"], told["factor"].numerator, told["factor"].denominator, told["advance"], told["closed"],
                *told["volumes"], *told["prices"], len(told["bidders"]) // 2, *told["bidders"]]

    def set_index(self, day, index):
        check((-1, lambda: day > 99999 or not 1 <= index <= 10000), (-9, lambda: len(set(self.index) - {day}) == 16))
        self.index[day] = index
        return [0]

    def record_delivery(self, number, day, grade, volume):
        check((-1, lambda: day > 99999 or grade > 9 or volume > 10 ** 6), (-3, lambda: self.no_contract(number)),
              (-8, lambda: self.contracts[number]["closed"]),
              (-4, lambda: not self.contracts[number]["day"] <= day <= self.day),
              (-9, lambda: len(self.deliveries) == 64))
        self.deliveries.append([number, day, grade, volume])
        return [len(self.deliveries) - 1]

    def correct_delivery(self, delivery, volume):
        check((-1, lambda: volume > 10 ** 6), (-3, lambda: delivery >= len(self.deliveries)))
        self.deliveries[delivery][3] = volume
        return [0]

    def close_contract(self, number):
        check((-3, lambda: self.no_contract(number)), (-8, lambda: self.contracts[number]["closed"]))
        self.contracts[number]["closed"] = 1
        return [0]

    def index_of(self, day):
        while day >= 0:
            if day in self.index:
                return self.index[day]
            day -= 1
        return 1000

    def estimate(self, number):
        return self.contracts[number]["value"] * self.contracts[number]["factor"] / 1000

    def delivered(self, number):
        contract = self.contracts[number]
        return sum([Fraction(volume) * contract["prices"][grade] * self.index_of(day) / self.index_of(contract["day"])
                    * contract["factor"] / 1000 for own, day, grade, volume in self.deliveries if own == number],
                   start=Fraction(0))

    def due(self, number):
        due = self.delivered(number)
        if not self.contracts[number]["closed"]:
            due = max(due, self.estimate(number) * self.contracts[number]["advance"] / 1000)
        below = due.__floor__()
        return below + 1 if due - below >= Fraction(1, 2) else below

    def parts(self, number):
        due = self.due(number)
        weights = self.contracts[number]["bidders"][1::2]
        parts = [due * weight // sum(weights) for weight in weights]
        ranks = sorted((-(due * weight % sum(weights)), place) for place, weight in enumerate(weights))
        for rank, place in ranks[:due - sum(parts)]:
            parts[place] += 1
        return parts

    def contract_value(self, number):
        check((-3, lambda: self.no_contract(number)))
        estimate, delivered = self.estimate(number), self.delivered(number)
        return [0, estimate.numerator, estimate.denominator, delivered.numerator, delivered.denominator,
                self.due(number)]

    def new_amounts(self, number):
        amounts = self.parts(number)
        for own, day, earlier in self.bills:
            if own == number:
                amounts = [amount - before for amount, before in zip(amounts, earlier)]
        return amounts

    def create_bill(self, number):
        check((-3, lambda: self.no_contract(number)), (-8, lambda: not any(self.new_amounts(number))),
              (-9, lambda: len(self.bills) == 48))
        amounts = self.new_amounts(number)
        self.bills.append((number, self.day, amounts))
        told = [len(self.bills) - 1]
        for bidder, amount in zip(self.contracts[number]["bidders"][::2], amounts):
            told += [bidder, amount]
        return told

    def list_bills(self, number):
        check((-3, lambda: self.no_contract(number)))
        entries = [[place, day] + amounts for place, (own, day, amounts) in enumerate(self.bills) if own == number]
        return [len(entries)] + sum(entries, [])

    def record_payment(self, bidder, amount):
        check((-1, lambda: bidder > 15 or amount > 10 ** 9))
        self.paid[bidder] += amount
        return [0]

    def balance(self, bidder):
        check((-1, lambda: bidder > 15))
        billed = 0
        for number, day, amounts in self.bills:
            bidders = self.contracts[number]["bidders"][::2]
            if bidder in bidders:
                billed += amounts[bidders.index(bidder)]
        return [0, billed - self.paid[bidder]]

    def shortfall(self, number):
        check((-3, lambda: self.no_contract(number)))
        volumes = list(self.contracts[number]["volumes"])
        for own, day, grade, volume in self.deliveries:
            if own == number:
                volumes[grade] -= volume
        return [0] + volumes


class Caller:
    """Draws calls that mostly go well, given what a book holds."""

    def __init__(self, seed, strange, sales):
        self.draw = random.Random(seed)
        self.strange = strange
        self.sales = sales

    def number(self, low, high):
        high = max(low, high)
        if self.draw.random() < self.strange:
            return self.draw.choice((0, high, high + 1, HUGE))
        return self.draw.randint(low, high)

    def row(self, low, high, longest):
        length = self.draw.randint(1, longest)
        if self.draw.random() < self.strange:
            length = self.draw.choice((0, 10, 11, 12, 13, 40))
        return [self.number(low, high) for place in range(length)]

    def different(self, count, longest):
        """Different numbers below the count, or at times the same ones."""
        numbers = self.draw.sample(range(count), min(count, self.draw.randint(1, longest)))
        if self.draw.random() < self.strange:
            numbers = numbers + self.row(0, count, 2)
        return numbers

    def bidders(self):
        numbers = []
        for bidder in self.different(6, 4):
            numbers += [bidder, self.number(1, self.draw.choice((1, 3, 1000)))]
        return numbers

    def sale_call(self, book):
        model = book.sale["model"] if book.sale else Model([(0, [1])], [])
        kind = self.draw.choice((2, 2, 3, 4, 4, 4, 5, 6, 7, 8, 9, 0, 10, 10))
        if kind == 0:
            return (0, self.number(book.day, book.day + 1))
        if kind == 2:
            return (2, self.number(0, self.draw.choice((0, 3))), self.row(0, 2000, 3))
        if kind == 3:
            return (3, self.number(0, 5), self.number(0, 3))
        if kind == 4:
            return (4, self.different(max(1, len(model.lots)), 3), self.row(0, 900, 3), self.bidders())
        if kind in (5, 9):
            return (kind, self.number(0, len(model.bids) - 1))
        if kind == 7:
            return (7, self.different(max(1, len(model.bids)), 4))
        return (kind,)

    def contract_call(self, book):
        kind = self.draw.choice((11, 12, 13, 13, 13, 13, 14, 14, 15, 16, 16, 17, 17, 17, 18, 19, 20, 21, 21, 0))
        number = self.number(0, len(book.contracts) - 1)
        volume = self.number(0, self.draw.choice((3, 1000, 5000)))
        if kind == 0:
            return (0, self.number(book.day, book.day + 2))
        if kind == 12:
            return (12, self.number(0, book.day + 9), self.number(1, self.draw.choice((3, 1500, 10000))))
        if kind == 13:
            first = book.contracts[number]["day"] if number < len(book.contracts) else 0
            return (13, number, self.number(first, book.day), self.number(0, 3), volume)
        if kind == 14:
            return (14, self.number(0, len(book.deliveries) - 1), volume)
        if kind == 15 and self.draw.random() < 0.8:
            return (16, number)
        if kind == 19:
            return (19, self.number(0, 5), volume)
        if kind == 20:
            return (20, self.number(0, 5))
        return (kind, number)

    def next_call(self, book):
        if book.sale is None and self.draw.random() < 0.15:
            return (1, self.number(book.day, book.day + 1), self.number(0, 1), self.number(0, 1000))
        if book.sale is not None and self.draw.random() < self.sales:
            return self.sale_call(book)
        if not book.contracts and self.draw.random() < 0.7:
            return self.sale_call(book)
        return self.contract_call(book)


def written(call):
    """The call as it stands in the list."""
    numbers = []
    for part in call:
        numbers += [len(part)] + part if isinstance(part, list) else [part]
    return numbers


class AllCalls(unittest.TestCase):
    def compare(self, seed, length, strange, sales, seen):
        caller, book, calls, expected = Caller(seed, strange, sales), Book(), [], []
        for place in range(length):
            calls.append(caller.next_call(book))
            expected.append(book.answer(*calls[-1]))
            seen[calls[-1][0], min(expected[-1][0], 0)] += 1
        results = ask([written(call) for call in calls])
        for place, call in enumerate(calls):
            self.assertEqual(results[place], expected[place], (seed, place, call))

    def test_sixty_calls(self):
        seen = Counter()
        for seed in range(700):
            self.compare(seed, 60, (0, 0.01, 0.05)[seed % 3], 0.6, seen)
        for operation in range(22):
            self.assertGreater(seen[operation, 0], 20, operation)
        listed = {0: (-1, -4), 1: (-1,), 2: (-1, -3, -4), 3: (-1, -3, -4), 4: (-1, -3, -4), 5: (-3, -8, -4),
                  6: (-3, -4), 7: (-3, -4), 8: (-3, -4), 9: (-3, -4), 10: (-3, -4), 11: (-3,), 12: (-1,),
                  13: (-1, -3, -8, -4), 14: (-1, -3), 15: (-3, -8), 16: (-3,), 17: (-3, -8), 18: (-3,), 19: (-1,),
                  20: (-1,), 21: (-3,)}
        for operation, codes in listed.items():
            for code in codes:
                self.assertGreater(seen[operation, code], 0, (operation, code))

    def test_more_than_sixty_calls(self):
        seen = Counter()
        for seed in range(16):
            self.compare(1000 + seed, 1200, (0, 0.01)[seed % 2], (0.3, 0.1)[seed % 4 // 2], seen)
        for operation in (12, 13, 17):
            self.assertGreater(seen[operation, -9], 0, operation)

    def test_calls_drawn_at_random(self):
        draw = random.Random(11)
        book_calls = ((0,), (0, 0, 0), (0, [0]), (0, 0), ([0], [0], [0]), (0,), (), ([0],), (), (0,), (), (0,), (0, 0),
                      (0, 0, 0, 0), (0, 0), (0,), (0,), (0,), (0,), (0, 0), (0,), (0,))
        edges = (0, 0, 0, 1, 1, 2, 9, 10, 15, 16, 1000, 1001, 99999, 100000, 1000000, 1000001, 10 ** 9, 10 ** 9 + 1,
                 HUGE)
        for count in range(300):
            book, calls, expected = Book(), [], []
            for place in range(60):
                step = draw.randrange(22)
                call = [step]
                for part in book_calls[step]:
                    row = [draw.choice(edges) for number in range(draw.choice((0, 1, 2, 2, 10, 11, 13, 40)))]
                    call.append(row if isinstance(part, list) else draw.choice(edges))
                calls.append(tuple(call))
                expected.append(book.answer(*call))
            self.assertEqual(ask([written(call) for call in calls]), expected)


if __name__ == "__main__":
    unittest.main()
