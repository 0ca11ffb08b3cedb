"""The operations 0 to 10: days, sales, lots, bids and the award.

Each answers a list of whole numbers: a single error code, or what the
document says it returns. Errors are looked for in the document's order.
"""

from timberbids.limits import ALREADY_DONE, FULL, MISSING, NOT_POSSIBLE, OUT_OF_RANGE
from timberbids.limits import BIDDER_ROW_LENGTHS, GRADES, MAX_ADVANCE, MAX_BIDDER, MAX_BIDS, MAX_CONTRACTS, MAX_DAY
from timberbids.limits import MAX_LIMIT, MAX_LOTS, MAX_PRICE, MAX_RESERVE, MAX_RULE, MAX_VOLUME, MAX_WEIGHT
from timberbids.limits import MILLICENTS, MIN_WEIGHT
from timberbids.ratio import lowest_terms
from timberbids.records import Bid, Contract, Lot, Sale
from timberbids.selection import all_selections, best_of, is_admissible, status_and_detail, threshold_of


def is_over(state):
    """Whether the closing day of the open sale has passed."""
    return state.day > state.sale.closing_day


def has_repeats(numbers):
    return len(set(numbers)) < len(numbers)


def has_all(numbers, count):
    """Whether each number is one of the count things that are numbered from 0."""
    return all([number < count for number in numbers])


def is_grade_row(numbers, highest):
    """Whether the row tells one to ten grades, none above the highest."""
    return 1 <= len(numbers) and len(numbers) <= GRADES and max(numbers) <= highest


def for_all_grades(numbers):
    return numbers + [0] * (GRADES - len(numbers))


def is_bidder_row(numbers):
    """Whether the row tells one to four bidders, each with a weight behind."""
    if len(numbers) not in BIDDER_ROW_LENGTHS:
        return False
    weights = numbers[1::2]
    return max(numbers[0::2]) <= MAX_BIDDER and min(weights) >= MIN_WEIGHT and max(weights) <= MAX_WEIGHT


def grade_volume(lots, grade):
    return sum([lot.volumes[grade] for lot in lots])


def new_bid(sale, lots, prices, bidders):
    members = [sale.lots[lot] for lot in lots]
    volumes = [grade_volume(members, grade) for grade in range(GRADES)]
    reserve = MILLICENTS * sum([lot.reserve for lot in members])
    pairs = list(zip(bidders[0::2], bidders[1::2]))
    return Bid(lots, for_all_grades(prices), pairs, volumes, reserve)


def set_day(state, day):
    if day > MAX_DAY:
        return [OUT_OF_RANGE]
    if day < state.day:
        return [NOT_POSSIBLE]
    state.day = day
    return [0]


def open_sale(state, closing_day, rule, advance):
    if closing_day > MAX_DAY or rule > MAX_RULE or advance > MAX_ADVANCE:
        return [OUT_OF_RANGE]
    if state.sale is not None:
        return [ALREADY_DONE]
    if closing_day < state.day:
        return [NOT_POSSIBLE]
    state.sale = Sale(closing_day, rule, advance)
    return [0]


def add_lot(state, reserve, volumes):
    sale = state.sale
    if reserve > MAX_RESERVE or not is_grade_row(volumes, MAX_VOLUME):
        return [OUT_OF_RANGE]
    if sale is None:
        return [MISSING]
    if len(sale.bids) > 0 or is_over(state):
        return [NOT_POSSIBLE]
    if len(sale.lots) == MAX_LOTS:
        return [FULL]
    sale.lots.append(Lot(reserve, for_all_grades(volumes)))
    return [len(sale.lots) - 1]


def set_limit(state, bidder, limit):
    if bidder > MAX_BIDDER or limit > MAX_LIMIT:
        return [OUT_OF_RANGE]
    if state.sale is None:
        return [MISSING]
    if is_over(state):
        return [NOT_POSSIBLE]
    state.sale.limits[bidder] = limit
    return [0]


def place_bid(state, lots, prices, bidders):
    sale = state.sale
    if len(lots) == 0 or len(lots) > MAX_LOTS:
        return [OUT_OF_RANGE]
    if not is_grade_row(prices, MAX_PRICE) or not is_bidder_row(bidders):
        return [OUT_OF_RANGE]
    if sale is None or not has_all(lots, len(sale.lots)):
        return [MISSING]
    if has_repeats(lots) or has_repeats(bidders[0::2]) or is_over(state):
        return [NOT_POSSIBLE]
    if len(sale.bids) == MAX_BIDS:
        return [FULL]
    sale.bids.append(new_bid(sale, lots, prices, bidders))
    return [len(sale.bids) - 1]


def withdraw_bid(state, number):
    sale = state.sale
    if sale is None or number >= len(sale.bids):
        return [MISSING]
    if sale.bids[number].withdrawn:
        return [ALREADY_DONE]
    if is_over(state):
        return [NOT_POSSIBLE]
    sale.bids[number].withdrawn = True
    return [0]


def list_bids(state):
    if state.sale is None:
        return [MISSING]
    if not is_over(state):
        return [NOT_POSSIBLE]
    told = [len(state.sale.bids)]
    for bid in state.sale.bids:
        told.extend([bid.value, 1 if bid.withdrawn else 0, 1 if is_admissible(bid) else 0])
    return told


def check_selection(state, numbers):
    if len(numbers) > MAX_BIDS:
        return [OUT_OF_RANGE]
    if state.sale is None or not has_all(numbers, len(state.sale.bids)):
        return [MISSING]
    if not is_over(state) or has_repeats(numbers):
        return [NOT_POSSIBLE]
    return [0] + status_and_detail(state.sale, numbers)


def best_selection(state):
    if state.sale is None:
        return [MISSING]
    if not is_over(state):
        return [NOT_POSSIBLE]
    best = best_of(all_selections(state.sale))
    return [best.value] + best.numbers


def threshold(state, number):
    sale = state.sale
    if sale is None or number >= len(sale.bids):
        return [MISSING]
    if not is_over(state):
        return [NOT_POSSIBLE]
    found = all_selections(sale)
    if number not in best_of(found).numbers:
        return [NOT_POSSIBLE]
    return [threshold_of(sale, found, number)]


def factor_of(sale, found, number):
    """What the contract of a bid of the best selection pays of the bid's value."""
    bid = sale.bids[number]
    if sale.rule == 0 or bid.value == 0:
        return (1, 1)
    return lowest_terms(threshold_of(sale, found, number), bid.value)


def award(state):
    sale = state.sale
    if sale is None:
        return [MISSING]
    if not is_over(state):
        return [NOT_POSSIBLE]
    found = all_selections(sale)
    best = best_of(found)
    first = len(state.contracts)
    if first + len(best.numbers) > MAX_CONTRACTS:
        return [FULL]
    for number in best.numbers:
        factor = factor_of(sale, found, number)
        state.contracts.append(Contract(sale.bids[number], state.day, sale.advance, factor))
    state.sale = None
    return [len(best.numbers), first]
