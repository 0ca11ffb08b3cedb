"""The rows of the document's example."""

import unittest

from tests.helper import add_lot, ask, award, balance, best_selection, check_selection, close_contract
from tests.helper import contract_value, correct_delivery, create_bill, get_contract, list_bids, open_sale, place_bid
from tests.helper import proceed, record_delivery, request, set_day, set_index, shortfall, threshold
from timberbids.desk import answers
from timberbids.records import State

ROWS = [
    (open_sale(5, 1, 200), [0]),
    (add_lot(100, [10000]), [0]),
    (add_lot(50, [0, 5000]), [1]),
    (place_bid([0], [30], [1, 1]), [0]),
    (place_bid([0, 1], [30, 40], [2, 3, 4, 1]), [1]),
    (place_bid([1], [0, 20], [3, 1]), [2]),
    (list_bids(), [-4]),
    (set_day(6), [0]),
    (list_bids(), [3, 300000, 0, 1, 500000, 0, 1, 100000, 0, 1]),
    (best_selection(), [500000, 1]),
    (threshold(1), [400000]),
    (check_selection([0, 1]), [0, 2, 0]),
    (award(), [1, 0]),
    (get_contract(0), [0, 6, 4, 5, 200, 0, 10000, 5000, 0, 0, 0, 0, 0, 0, 0, 0,
                       30, 40, 0, 0, 0, 0, 0, 0, 0, 0, 2, 2, 3, 4, 1]),
    (create_bill(0), [0, 2, 60, 4, 20]),
    (set_day(8), [0]),
    (set_index(8, 1100), [0]),
    (record_delivery(0, 8, 0, 10000), [0]),
    (create_bill(0), [1, 2, 138, 4, 46]),
    (correct_delivery(0, 9000), [0]),
    (contract_value(0), [0, 400, 1, 1188, 5, 238]),
    (create_bill(0), [2, 2, -19, 4, -7]),
    (balance(2), [0, 179]),
    (close_contract(0), [0]),
    (shortfall(0), [0, 1000, 5000, 0, 0, 0, 0, 0, 0, 0, 0]),
    (create_bill(0), [-8]),
]


class Example(unittest.TestCase):
    def test_rows(self):
        self.assertEqual(ask([call for call, result in ROWS]), [result for call, result in ROWS])

    def test_written_out(self):
        calls = [1, 5, 1, 200, 2, 100, 1, 10000, 2, 50, 2, 0, 5000, 4, 1, 0, 1, 30, 2, 1, 1, 0, 6, 8, 7, 1, 0]
        self.assertEqual(answers(calls), [1, 0, 1, 0, 1, 1, 1, 0, 1, 0, 2, 300000, 0, 3, 0, 0, 300000])

    def test_written_out_from_the_award_on(self):
        before = [call for call, result in ROWS[:12]]
        calls = [10, 11, 0, 17, 0, 0, 8, 12, 8, 1100, 13, 0, 8, 0, 10000, 17, 0, 14, 0, 9000, 16, 0, 17, 0, 20, 2,
                 15, 0, 21, 0, 17, 0]
        told = answers(request(before) + calls)[len(answers(request(before))):]
        self.assertEqual(told, [2, 1, 0,
                                31, 0, 6, 4, 5, 200, 0, 10000, 5000, 0, 0, 0, 0, 0, 0, 0, 0,
                                30, 40, 0, 0, 0, 0, 0, 0, 0, 0, 2, 2, 3, 4, 1,
                                5, 0, 2, 60, 4, 20, 1, 0, 1, 0, 1, 0, 5, 1, 2, 138, 4, 46, 1, 0,
                                6, 0, 400, 1, 1188, 5, 238, 5, 2, 2, -19, 4, -7, 2, 0, 179, 1, 0,
                                11, 0, 1000, 5000, 0, 0, 0, 0, 0, 0, 0, 0, 1, -8])

    def test_contract_of_the_award(self):
        state = State()
        proceed(state, [call for call, result in ROWS[:13]])
        self.assertEqual(len(state.contracts), 1)
        contract = state.contracts[0]
        self.assertEqual(contract.day, 6)
        self.assertEqual(contract.factor, (4, 5))
        self.assertEqual(contract.advance, 200)
        self.assertIs(contract.closed, False)
        self.assertEqual(contract.volumes, [10000, 5000, 0, 0, 0, 0, 0, 0, 0, 0])
        self.assertEqual(contract.prices, [30, 40, 0, 0, 0, 0, 0, 0, 0, 0])
        self.assertEqual(contract.bidders, [(2, 3), (4, 1)])


if __name__ == "__main__":
    unittest.main()
