"""The operations 11 to 21: contracts, the index, deliveries, bills and payments.

Each answers a list of whole numbers: a single error code, or what the
document says it returns. Errors are looked for in the document's order.
"""

from timberbids.amounts import deliveries_of, delivered_of, due_of, estimate_of, parts_of
from timberbids.limits import ALREADY_DONE, FULL, MISSING, NOT_POSSIBLE, OUT_OF_RANGE
from timberbids.limits import GRADES, MAX_AMOUNT, MAX_BIDDER, MAX_BILLS, MAX_DAY, MAX_DELIVERIES, MAX_GRADE
from timberbids.limits import MAX_INDEX, MAX_INDEX_DAYS, MAX_VOLUME, MIN_INDEX
from timberbids.records import Bill, Delivery


def has_contract(state, number):
    return number < len(state.contracts)


def get_contract(state, number):
    if not has_contract(state, number):
        return [MISSING]
    contract = state.contracts[number]
    told = [0, contract.day, contract.factor[0], contract.factor[1], contract.advance, 1 if contract.closed else 0]
    told = told + contract.volumes + contract.prices + [len(contract.bidders)]
    for bidder, weight in contract.bidders:
        told.extend([bidder, weight])
    return told


def set_index(state, day, index):
    if day > MAX_DAY or index < MIN_INDEX or index > MAX_INDEX:
        return [OUT_OF_RANGE]
    if day not in state.index_values and len(state.index_values) == MAX_INDEX_DAYS:
        return [FULL]
    state.index_values[day] = index
    return [0]


def record_delivery(state, number, day, grade, volume):
    if day > MAX_DAY or grade > MAX_GRADE or volume > MAX_VOLUME:
        return [OUT_OF_RANGE]
    if not has_contract(state, number):
        return [MISSING]
    contract = state.contracts[number]
    if contract.closed:
        return [ALREADY_DONE]
    if day < contract.day or day > state.day:
        return [NOT_POSSIBLE]
    if len(state.deliveries) == MAX_DELIVERIES:
        return [FULL]
    state.deliveries.append(Delivery(number, day, grade, volume))
    return [len(state.deliveries) - 1]


def correct_delivery(state, delivery, volume):
    if volume > MAX_VOLUME:
        return [OUT_OF_RANGE]
    if delivery >= len(state.deliveries):
        return [MISSING]
    state.deliveries[delivery].volume = volume
    return [0]


def close_contract(state, number):
    if not has_contract(state, number):
        return [MISSING]
    if state.contracts[number].closed:
        return [ALREADY_DONE]
    state.contracts[number].closed = True
    return [0]


def contract_value(state, number):
    if not has_contract(state, number):
        return [MISSING]
    estimate = estimate_of(state.contracts[number])
    delivered = delivered_of(state, number)
    return [0, estimate[0], estimate[1], delivered[0], delivered[1], due_of(state, number)]


def bills_of(state, number):
    return [bill for bill in state.bills if bill.contract == number]


def billed_in(bills, bidder):
    """The sum of the bidder's amounts in the bills."""
    return sum([bill.amounts.get(bidder, 0) for bill in bills])


def amounts_to_bill(state, number):
    """For each bidder of the contract, the part of the amount due that isn't billed yet."""
    bidders = state.contracts[number].bidders
    earlier = bills_of(state, number)
    parts = parts_of(due_of(state, number), [pair[1] for pair in bidders])
    amounts = {}
    for pair, part in zip(bidders, parts):
        amounts[pair[0]] = part - billed_in(earlier, pair[0])
    return amounts


def create_bill(state, number):
    if not has_contract(state, number):
        return [MISSING]
    amounts = amounts_to_bill(state, number)
    if all([amount == 0 for amount in amounts.values()]):
        return [ALREADY_DONE]
    if len(state.bills) == MAX_BILLS:
        return [FULL]
    state.bills.append(Bill(number, state.day, amounts))
    told = [len(state.bills) - 1]
    for bidder, amount in amounts.items():
        told.extend([bidder, amount])
    return told


def list_bills(state, number):
    if not has_contract(state, number):
        return [MISSING]
    told = [len(bills_of(state, number))]
    for place, bill in enumerate(state.bills):
        if bill.contract == number:
            told.extend([place, bill.day] + list(bill.amounts.values()))
    return told


def record_payment(state, bidder, amount):
    if bidder > MAX_BIDDER or amount > MAX_AMOUNT:
        return [OUT_OF_RANGE]
    state.paid[bidder] += amount
    return [0]


def balance(state, bidder):
    if bidder > MAX_BIDDER:
        return [OUT_OF_RANGE]
    return [0, billed_in(state.bills, bidder) - state.paid[bidder]]


def shortfall(state, number):
    if not has_contract(state, number):
        return [MISSING]
    deliveries = deliveries_of(state, number)
    told = [0]
    for grade in range(GRADES):
        measured = sum([delivery.volume for delivery in deliveries if delivery.grade == grade])
        told.append(state.contracts[number].volumes[grade] - measured)
    return told
