"""Selections of bids: whether bids form one, the best one, and thresholds."""

from timberbids.limits import BIDDERS


class Selection:
    """A selection under way: which lots are taken, and how many bids each bidder may still have."""

    def __init__(self, numbers, value, taken, room):
        self.numbers = numbers
        self.value = value
        self.taken = taken
        self.room = room


def is_admissible(bid):
    return not bid.withdrawn and bid.value >= bid.reserve


def fits(chosen, bid):
    """Whether the bid may join the selection."""
    for lot in bid.lots:
        if chosen.taken[lot]:
            return False
    for bidder, weight in bid.bidders:
        if chosen.room[bidder] == 0:
            return False
    return True


def joined(chosen, number, bid):
    """A new selection: the chosen bids and this one behind them."""
    taken = list(chosen.taken)
    for lot in bid.lots:
        taken[lot] = True
    room = list(chosen.room)
    for bidder, weight in bid.bidders:
        room[bidder] -= 1
    return Selection(chosen.numbers + [number], chosen.value + bid.value, taken, room)


def all_selections(sale):
    """Every selection of the sale, each with its bid numbers in increasing order."""
    # A part of a selection is a selection too, so each one is met by adding
    # its bids one by one in increasing order. A bid takes at least one of ten
    # lots, which keeps the selections of twelve bids at some thousand.
    found = [Selection([], 0, [False] * len(sale.lots), list(sale.limits))]
    for number, bid in enumerate(sale.bids):
        if is_admissible(bid):
            found = found + [joined(chosen, number, bid) for chosen in found if fits(chosen, bid)]
    return found


def rank(chosen):
    """Smaller for a better selection."""
    return (-chosen.value, len(chosen.numbers), chosen.numbers)


def best_of(found):
    return min(found, key=rank)


def threshold_of(sale, found, number):
    """The threshold of a bid of the best selection; found are all selections of the sale."""
    bid = sale.bids[number]
    best_value = best_of(found).value
    best_without = max([chosen.value for chosen in found if number not in chosen.numbers])
    return max(bid.reserve, best_without - (best_value - bid.value))


def inadmissible_bid(sale, numbers):
    """The first bid that isn't admissible, or None."""
    for number in numbers:
        if not is_admissible(sale.bids[number]):
            return number
    return None


def shared_lot(sale, numbers):
    """The smallest lot that belongs to more than one of the bids, or None."""
    for lot in range(len(sale.lots)):
        if len([number for number in numbers if lot in sale.bids[number].lots]) > 1:
            return lot
    return None


def takes_part(bid, bidder):
    return bidder in [pair[0] for pair in bid.bidders]


def bidder_over_limit(sale, numbers):
    """The smallest bidder with more of the bids than the limit, or None."""
    for bidder in range(BIDDERS):
        if len([number for number in numbers if takes_part(sale.bids[number], bidder)]) > sale.limits[bidder]:
            return bidder
    return None


def status_and_detail(sale, numbers):
    """The first row of check_selection's table that applies."""
    bid = inadmissible_bid(sale, numbers)
    if bid is not None:
        return [1, bid]
    lot = shared_lot(sale, numbers)
    if lot is not None:
        return [2, lot]
    bidder = bidder_over_limit(sale, numbers)
    if bidder is not None:
        return [3, bidder]
    return [0, sum([sale.bids[number].value for number in numbers])]
