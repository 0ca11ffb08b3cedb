"""Small sales against all their selections, and the document's requirements 1 to 4 over them."""

import itertools
import random
import unittest

from tests.helper import Model, add_lot, ask, award, best_selection, check_selection, list_bids, place_bid
from tests.helper import proceed, random_model, set_day, state_after, threshold, withdraw_bid

SEEDS = range(400)


def subsets(numbers):
    return [list(part) for size in range(len(numbers) + 1) for part in itertools.combinations(numbers, size)]


class AgainstAllSelections(unittest.TestCase):
    def compare(self, model, seed):
        """Everything that is told of the sale is as the definitions have it."""
        state = state_after(model.calls())
        best = model.best()
        draw = random.Random(seed)
        bids = range(len(model.bids))
        lists = [draw.sample(bids, draw.randint(0, len(bids))) for count in range(10)] + [best]
        self.assertEqual(proceed(state, [list_bids()]), [model.bid_list()])
        self.assertEqual(proceed(state, [best_selection()]), [[model.total(best)] + best])
        for numbers in lists:
            self.assertEqual(proceed(state, [check_selection(numbers)]), [[0] + model.status(numbers)])
        for number in bids:
            result = [model.threshold(number)] if number in best else [-4]
            self.assertEqual(proceed(state, [threshold(number)]), [result])
        self.assertEqual(proceed(state, [award()]), [[len(best), 0]])
        self.compare_contracts(model, best, state.contracts)

    def compare_contracts(self, model, best, contracts):
        self.assertEqual(len(contracts), len(best))
        for number, contract in zip(best, contracts):
            lots, prices, bidders = model.bids[number]
            volumes = [sum(column) for column in itertools.zip_longest(*[model.lots[lot][1] for lot in lots],
                                                                       fillvalue=0)]
            self.assertEqual(contract.volumes, volumes + [0] * (10 - len(volumes)))
            self.assertEqual(contract.prices, prices + [0] * (10 - len(prices)))
            self.assertEqual(contract.bidders, list(zip(bidders[::2], bidders[1::2])))
            self.assertEqual((contract.day, contract.advance, contract.closed), (1, model.advance, False))
            top, bottom = contract.factor
            share = model.threshold(number) if model.rule == 1 else model.value(number)
            self.assertEqual(top * model.value(number), bottom * share)

    def test_random_sales(self):
        for seed in SEEDS:
            with self.subTest(seed=seed):
                self.compare(random_model(seed), seed)

    def test_the_random_sales_are_of_every_kind(self):
        models = [random_model(seed) for seed in SEEDS]
        self.assertTrue(any(not model.bids for model in models))
        self.assertTrue(any(model.withdrawn for model in models))
        self.assertTrue(any(model.value(bid) == 0 for model in models for bid in range(len(model.bids))))
        self.assertTrue(any(model.value(bid) < model.reserve(bid) for model in models
                            for bid in range(len(model.bids))))
        ties = [[part for part in model.selections() if model.total(part) == model.total(model.best())]
                for model in models]
        self.assertTrue(any(len(tie[0]) < len(tie[-1]) for tie in ties))
        self.assertTrue(any(len(tie) > 1 and len(tie[0]) == len(tie[1]) > 1 for tie in ties))

    def test_limits_from_0_to_12(self):
        for limit in range(13):
            for seed in range(8):
                model = random_model(seed, 8, 8)
                model.limits = {0: limit, 1: max(0, limit - seed)}
                with self.subTest(limit=limit, seed=seed):
                    self.compare(model, seed)

    def test_no_bid(self):
        self.compare(Model([], []), 0)
        self.compare(Model([(5, [1000])], []), 0)

    def test_ties_of_equal_bids(self):
        for seed in range(60):
            model = random_model(seed, 4, 7, prices=(1,), reserves=(0,))
            model.lots = [(0, [1000]) for lot in model.lots]
            with self.subTest(seed=seed):
                self.compare(model, seed)


class Requirement1(unittest.TestCase):
    def test_no_selection_has_a_higher_value(self):
        for seed in range(60):
            model = random_model(seed, 4, 4)
            parts = subsets(range(len(model.bids)))
            results = ask(model.calls() + [best_selection()] + [check_selection(part) for part in parts])
            told = results[-len(parts) - 1]
            values = {tuple(part): result[2] for part, result in zip(parts, results[-len(parts):]) if result[1] == 0}
            with self.subTest(seed=seed):
                self.assertEqual(told[0], max(values.values()))
                self.assertEqual(values[tuple(told[1:])], told[0])


class Requirement2(unittest.TestCase):
    def test_as_if_never_placed(self):
        for seed in range(80):
            model = random_model(seed)
            model.withdrawn = set()
            for gone in range(len(model.bids)):
                with self.subTest(seed=seed, gone=gone):
                    self.compare(model, gone)

    def compare(self, model, gone):
        without = Model(model.lots, model.bids[:gone] + model.bids[gone + 1:], model.limits)
        calls = model.calls()
        withdrawn = state_after(calls[:-1] + [withdraw_bid(gone)] + calls[-1:])
        never = state_after(without.calls())
        renumber = [number for number in range(len(model.bids)) if number != gone]
        for part in subsets(range(len(without.bids))):
            there = proceed(withdrawn, [check_selection([renumber[number] for number in part])])[0]
            here = proceed(never, [check_selection(part)])[0]
            if here[1] == 1:
                here[2] = renumber[here[2]]
            self.assertEqual(there, here)
        there = proceed(withdrawn, [best_selection()])[0]
        here = proceed(never, [best_selection()])[0]
        self.assertEqual(there, here[:1] + [renumber[number] for number in here[1:]])
        for number in here[1:]:
            self.assertEqual(proceed(withdrawn, [threshold(renumber[number])]), proceed(never, [threshold(number)]))

    def test_still_counts(self):
        model = Model([(0, [1000])], [([0], [1], [0, 1])] * 12, withdrawn=range(12))
        results = ask(model.calls()[:-1] + [place_bid([0], [1], [0, 1]), add_lot(0, [1])])
        self.assertEqual(results[-2:], [[-9], [-4]])

    def test_on_the_closing_day_and_after(self):
        calls = Model([(0, [1000])], [([0], [3], [0, 1]), ([0], [2], [0, 1])]).calls(5)[:-1]
        results = ask(calls + [set_day(5), withdraw_bid(0), set_day(6), withdraw_bid(1), best_selection()])
        self.assertEqual(results[-5:], [[0], [0], [0], [-4], [2000, 1]])


class Requirement3(unittest.TestCase):
    def best_with(self, model, number, price):
        """The best selection if the bid had another price."""
        lots, prices, bidders = model.bids[number]
        bids = list(model.bids)
        bids[number] = (lots, [price], bidders)
        changed = Model(model.lots, bids, model.limits, model.withdrawn)
        return changed.value(number), ask(changed.calls() + [best_selection()])[-1][1:]

    def test_below_the_threshold_and_above_the_value(self):
        seen = {"below": 0, "above": 0}
        for seed in range(120):
            model = random_model(seed, 4, 5)
            # One grade, so that the price alone makes the value.
            model.lots = [(reserve, [1000]) for reserve, volumes in model.lots]
            model.bids = [(lots, prices[:1], bidders) for lots, prices, bidders in model.bids]
            for number in ask(model.calls() + [best_selection()])[-1][1:]:
                least = ask(model.calls() + [threshold(number)])[-1][0]
                for price in range(9):
                    value, best = self.best_with(model, number, price)
                    with self.subTest(seed=seed, number=number, price=price):
                        if value < least:
                            seen["below"] += 1
                            self.assertNotIn(number, best)
                        if value > model.value(number):
                            seen["above"] += 1
                            self.assertIn(number, best)
        self.assertGreater(min(seen.values()), 50)


class Requirement4(unittest.TestCase):
    def test_estimate_lies_between_reserve_and_value(self):
        contracts = 0
        for seed in SEEDS:
            model = random_model(seed)
            model.rule = 1
            state = state_after(model.calls() + [award()])
            for number, contract in zip(model.best(), state.contracts):
                top, bottom = contract.factor
                contracts += 1
                with self.subTest(seed=seed, number=number):
                    self.assertLessEqual(model.value(number) * top, model.value(number) * bottom)
                    self.assertGreaterEqual(model.value(number) * top, model.reserve(number) * bottom)
        self.assertGreater(contracts, 100)


if __name__ == "__main__":
    unittest.main()
