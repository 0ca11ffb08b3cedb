"""The amounts of a contract: the index, the estimate, what is delivered, what is due and its parts."""

from timberbids.limits import INDEX_AT_FIRST, MILLICENTS, THOUSANDTHS
from timberbids.ratio import lowest_terms, nearest


def index_of(state, day):
    """The index value that was set for the latest day that isn't after this one."""
    days = [known for known in state.index_values if known <= day]
    if len(days) == 0:
        return INDEX_AT_FIRST
    return state.index_values[max(days)]


def estimate_of(contract):
    """The estimate in cents, a fraction."""
    factor = contract.factor
    return lowest_terms(contract.value * factor[0], MILLICENTS * factor[1])


def deliveries_of(state, number):
    return [delivery for delivery in state.deliveries if delivery.contract == number]


def delivered_of(state, number):
    """What is delivered under the contract in cents, a fraction."""
    contract = state.contracts[number]
    factor = contract.factor
    # The index of the award day and the factor are the same for all
    # deliveries; taken in once at the end, the sum is of whole numbers.
    total = 0
    for delivery in deliveries_of(state, number):
        total += delivery.volume * contract.prices[delivery.grade] * index_of(state, delivery.day)
    return lowest_terms(total * factor[0], index_of(state, contract.day) * factor[1] * MILLICENTS)


def due_of(state, number):
    """The amount due in whole cents."""
    contract = state.contracts[number]
    delivered = nearest(delivered_of(state, number))
    if contract.closed:
        return delivered
    estimate = estimate_of(contract)
    # Rounding never turns the order of two amounts round, so the greater of
    # the rounded ones is the greater one rounded.
    return max(delivered, nearest((estimate[0] * contract.advance, estimate[1] * THOUSANDTHS)))


def parts_of(due, weights):
    """The amount due, distributed by the largest remainder method."""
    total = sum(weights)
    parts = [due * weight // total for weight in weights]
    remaining = due - sum(parts)
    # Sorting keeps equal remainders in their order, the earlier bidder ahead.
    places = sorted(range(len(weights)), key=lambda place: -(due * weights[place] % total))
    for place in places[:remaining]:
        parts[place] += 1
    return parts
