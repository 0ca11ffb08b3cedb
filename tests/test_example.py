"""The rows of the document's example."""

import unittest

from tests.helper import add_lot, ask, award, best_selection, check_selection, list_bids, open_sale, place_bid
from tests.helper import proceed, set_day, threshold
from timberbids.desk import answers
from timberbids.records import State

ROWS = [
    (open_sale(5, 1, 200), [0]),
    (add_lot(100, [10000]), [0]),
    (add_lot(50, [0, 5000]), [1]),
    (place_bid([0], [30], [1, 1]), [0]),
    (place_bid([0, 1], [30, 40], [2, 3, 4, 1]), [1]),
    (place_bid([1], [0, 20], [3, 1]), [2]),
    (list_bids(), [-4]),
    (set_day(6), [0]),
    (list_bids(), [3, 300000, 0, 1, 500000, 0, 1, 100000, 0, 1]),
    (best_selection(), [500000, 1]),
    (threshold(1), [400000]),
    (check_selection([0, 1]), [0, 2, 0]),
    (award(), [1, 0]),
]


class Example(unittest.TestCase):
    def test_rows(self):
        self.assertEqual(ask([call for call, result in ROWS]), [result for call, result in ROWS])

    def test_written_out(self):
        calls = [1, 5, 1, 200, 2, 100, 1, 10000, 2, 50, 2, 0, 5000, 4, 1, 0, 1, 30, 2, 1, 1, 0, 6, 8, 7, 1, 0]
        self.assertEqual(answers(calls), [1, 0, 1, 0, 1, 1, 1, 0, 1, 0, 2, 300000, 0, 3, 0, 0, 300000])

    def test_contract_of_the_award(self):
        state = State()
        proceed(state, [call for call, result in ROWS])
        self.assertEqual(len(state.contracts), 1)
        contract = state.contracts[0]
        self.assertEqual(contract.day, 6)
        self.assertEqual(contract.factor, (4, 5))
        self.assertEqual(contract.advance, 200)
        self.assertIs(contract.closed, False)
        self.assertEqual(contract.volumes, [10000, 5000, 0, 0, 0, 0, 0, 0, 0, 0])
        self.assertEqual(contract.prices, [30, 40, 0, 0, 0, 0, 0, 0, 0, 0])
        self.assertEqual(contract.bidders, [(2, 3), (4, 1)])


if __name__ == "__main__":
    unittest.main()
