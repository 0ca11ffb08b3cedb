"""The desk: answers a request, which is one list of calls."""

from timberbids.auction import add_lot, award, best_selection, check_selection, list_bids, open_sale, place_bid
from timberbids.auction import set_day, set_limit, threshold, withdraw_bid
from timberbids.contracts import balance, close_contract, contract_value, correct_delivery, create_bill, get_contract
from timberbids.contracts import list_bills, record_delivery, record_payment, set_index, shortfall
from timberbids.records import State

# How many whole numbers and how many rows each operation has, by its number.
SHAPES = (
    (1, 0),
    (3, 0),
    (1, 1),
    (2, 0),
    (0, 3),
    (1, 0),
    (0, 0),
    (0, 1),
    (0, 0),
    (1, 0),
    (0, 0),
    (1, 0),
    (2, 0),
    (4, 0),
    (2, 0),
    (1, 0),
    (1, 0),
    (1, 0),
    (1, 0),
    (2, 0),
    (1, 0),
    (1, 0),
)

# The operations from this one on are about contracts, those ahead of it about sales.
FIRST_OF_CONTRACTS = 11


class UnknownOperation(ValueError):
    """A call whose number is none of the operations."""


class Reader:
    """Goes through a list of whole numbers without changing it."""

    def __init__(self, source):
        self.source = source
        self.place = 0

    def at_end(self):
        return self.place >= len(self.source)

    def next_numbers(self, length):
        start = self.place
        self.place = start + length
        return self.source[start:self.place]

    def next_number(self):
        return self.next_numbers(1)[0]

    def next_row(self):
        return self.next_numbers(self.next_number())


def answer_of_sales(state, operation, numbers, rows):
    """What one of the operations 0 to 10 answers."""
    if operation == 0:
        return set_day(state, numbers[0])
    if operation == 1:
        return open_sale(state, numbers[0], numbers[1], numbers[2])
    if operation == 2:
        return add_lot(state, numbers[0], rows[0])
    if operation == 3:
        return set_limit(state, numbers[0], numbers[1])
    if operation == 4:
        return place_bid(state, rows[0], rows[1], rows[2])
    if operation == 5:
        return withdraw_bid(state, numbers[0])
    if operation == 6:
        return list_bids(state)
    if operation == 7:
        return check_selection(state, rows[0])
    if operation == 8:
        return best_selection(state)
    if operation == 9:
        return threshold(state, numbers[0])
    return award(state)


def answer_of_contracts(state, operation, numbers):
    """What one of the operations 11 to 21 answers."""
    if operation == 11:
        return get_contract(state, numbers[0])
    if operation == 12:
        return set_index(state, numbers[0], numbers[1])
    if operation == 13:
        return record_delivery(state, numbers[0], numbers[1], numbers[2], numbers[3])
    if operation == 14:
        return correct_delivery(state, numbers[0], numbers[1])
    if operation == 15:
        return close_contract(state, numbers[0])
    if operation == 16:
        return contract_value(state, numbers[0])
    if operation == 17:
        return create_bill(state, numbers[0])
    if operation == 18:
        return list_bills(state, numbers[0])
    if operation == 19:
        return record_payment(state, numbers[0], numbers[1])
    if operation == 20:
        return balance(state, numbers[0])
    return shortfall(state, numbers[0])


def answer_next(state, reader):
    """Reads one call and answers it."""
    operation = reader.next_number()
    if operation >= len(SHAPES):
        raise UnknownOperation(f"no operation {operation}")
    shape = SHAPES[operation]
    numbers = reader.next_numbers(shape[0])
    rows = [reader.next_row() for row in range(shape[1])]
    if operation >= FIRST_OF_CONTRACTS:
        return answer_of_contracts(state, operation, numbers)
    return answer_of_sales(state, operation, numbers, rows)


def answers(calls):
    """For each call, how many numbers it answers, then these."""
    reader = Reader(calls)
    state = State()
    told = []
    while not reader.at_end():
        result = answer_next(state, reader)
        told.append(len(result))
        told.extend(result)
    return told
