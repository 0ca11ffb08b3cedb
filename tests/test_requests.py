"""Whole requests: how calls stand in the list, what is kept between lists, and a full sale."""

import random
import unittest

from tests.helper import HUGE, Model, add_lot, ask, award, best_selection, check_selection, list_bids, open_sale
from tests.helper import place_bid, request, set_day, set_limit, split_results, threshold, withdraw_bid
from timberbids.desk import SHAPES, UnknownOperation, answers


def full_model(seed, most_lots=4):
    """A sale with 10 lots, 12 bids and 10 grades."""
    draw = random.Random(seed)
    lots = [(draw.randint(0, 3000), [draw.randint(0, 1000000) for grade in range(10)]) for lot in range(10)]
    bids = []
    for bid in range(12):
        members = draw.sample(range(16), 4)
        bids.append((draw.sample(range(10), draw.randint(1, most_lots)),
                     [draw.randint(0, 1000000) for grade in range(10)],
                     [number for bidder in members for number in (bidder, draw.randint(1, 1000))]))
    return Model(lots, bids, {0: 1, 3: 2, 7: 0}, [4], 1, 500)


class TheList(unittest.TestCase):
    def test_one_call(self):
        self.assertEqual(answers([0, 3]), [1, 0])
        self.assertEqual(answers([8]), [1, -3])
        self.assertEqual(answers([1, 0, 0, 0]), [1, 0])

    def test_counts_ahead(self):
        calls = [1, 0, 0, 0, 2, 7, 2, 1000, 9, 4, 1, 0, 2, 7, 8, 4, 1, 1, 2, 2, 0, 1, 6, 8, 7, 1, 0, 9, 0, 10]
        self.assertEqual(answers(calls), [1, 0, 1, 0, 1, 0, 1, 0, 4, 1, 7072, 0, 1, 2, 7072, 0,
                                          3, 0, 0, 7072, 1, 7000, 2, 1, 0])

    def test_rows_of_every_length_are_passed_over(self):
        calls = []
        for length in range(0, 41, 5):
            calls += [add_lot(0, [5] * length), place_bid([8] * length, [3] * (40 - length), [1] * length),
                      check_selection([9] * length), set_day(length)]
        results = ask(calls)
        self.assertEqual(results[3::4], [[0]] * 9)
        for result in results[0::4] + results[1::4] + results[2::4]:
            self.assertIn(result, ([-1], [-3]))

    def test_the_longest_request(self):
        call = place_bid([HUGE] * 40, [HUGE] * 40, [HUGE] * 40)
        self.assertEqual(len(request([call] * 60)), 7440)
        self.assertEqual(ask([call] * 60), [[-1]] * 60)

    def test_no_such_operation(self):
        for operation in (len(SHAPES), 22, HUGE):
            self.assertRaises(UnknownOperation, answers, [0, 1, operation])

    def test_what_is_handed_in_stays(self):
        calls = request(full_model(1).calls() + [list_bids(), best_selection(), award(), place_bid([0], [1], [2])])
        before = list(calls)
        answers(calls)
        self.assertEqual(calls, before)

    def test_answers_are_plain_whole_numbers(self):
        model = full_model(2)
        told = answers(request(model.calls() + [list_bids(), best_selection(), check_selection([4]), award()]))
        self.assertIs(type(told), list)
        self.assertEqual({type(number) for number in told}, {int})

    def test_two_lists_do_not_know_of_one_another(self):
        sale = [set_day(3), open_sale(5), add_lot(0, [1000]), set_limit(0, 1), place_bid([0], [1], [0, 1])]
        first = ask(sale)
        self.assertEqual(ask(sale), first)
        self.assertEqual(ask([set_day(0), list_bids(), award()]), [[0], [-3], [-3]])
        awarded = sale + [set_day(6), award()]
        self.assertEqual(ask(awarded)[-1], [1, 0])
        self.assertEqual(ask(awarded)[-1], [1, 0])

    def test_an_answer_may_be_changed(self):
        calls = request([open_sale(), set_day(1), list_bids()])
        answers(calls).clear()
        self.assertEqual(split_results(answers(calls)), [[0], [0], [0]])


class FullSale(unittest.TestCase):
    def test_sixty_calls(self):
        for seed, most_lots in ((1, 4), (2, 3), (3, 2), (4, 1)):
            model = full_model(seed, most_lots)
            best = model.best()
            draw = random.Random(seed)
            lists = [best] + [draw.sample(range(12), size) for size in (0, 1, 2, 2, 3, 3, 4, 5, 6, 7, 8, 9, 10, 11, 12)]
            thresholds = [[model.threshold(bid)] if bid in best else [-4] for bid in range(12)]
            rows = [(list_bids(), model.bid_list()), (best_selection(), [model.total(best)] + best)]
            rows += [(threshold(bid), thresholds[bid]) for bid in range(12)]
            rows += [(check_selection(part), [0] + model.status(part)) for part in lists]
            rows += [(award(), [len(best), 0])]
            before = model.calls()[:-1]
            calls = before + [set_day(0)] * (59 - len(before) - len(rows)) + [set_day(1)] + [row[0] for row in rows]
            with self.subTest(seed=seed):
                self.assertEqual(len(calls), 60)
                self.assertEqual(ask(calls)[-len(rows):], [row[1] for row in rows])

    def test_ten_bids_that_fit_together(self):
        model = Model([(1, [1000] * 10)] * 10, [([lot % 10], [lot + 1] * 10, [0, 1]) for lot in range(12)])
        calls = model.calls() + [best_selection(), threshold(11), threshold(2), threshold(0), award()]
        best = list(range(2, 12))
        self.assertEqual(ask(calls)[-5:], [[750000] + best, [20000], [1000], [-4], [10, 0]])

    def test_withdrawn_bids_of_a_full_sale(self):
        model = full_model(5, 2)
        calls = model.calls()[:-1] + [withdraw_bid(bid) for bid in range(12) if bid != 4] + [set_day(1)]
        self.assertEqual(ask(calls + [best_selection(), award()])[-2:], [[0], [0, 0]])


if __name__ == "__main__":
    unittest.main()
