"""What one request keeps: the day, the sale, the contracts and what is billed and paid."""

from timberbids.limits import BIDDERS, MAX_LIMIT


class Lot:
    """A lot; its volumes are told for all ten grades."""

    def __init__(self, reserve, volumes):
        self.reserve = reserve
        self.volumes = volumes


class Bid:
    """A bid; the volumes are the totals of its lots, reserve and value are in millicents."""

    def __init__(self, lots, prices, bidders, volumes, reserve):
        self.lots = lots
        self.prices = prices
        self.bidders = bidders
        self.volumes = volumes
        self.reserve = reserve
        self.value = sum([volume * price for volume, price in zip(volumes, prices)])
        self.withdrawn = False


class Sale:
    """The sale that is open."""

    def __init__(self, closing_day, rule, advance):
        self.closing_day = closing_day
        self.rule = rule
        self.advance = advance
        self.lots = []
        self.bids = []
        self.limits = [MAX_LIMIT] * BIDDERS


class Contract:
    """What an award makes of a bid; factor is a fraction."""

    def __init__(self, bid, day, advance, factor):
        self.value = bid.value
        self.volumes = list(bid.volumes)
        self.prices = list(bid.prices)
        self.bidders = list(bid.bidders)
        self.day = day
        self.advance = advance
        self.factor = factor
        self.closed = False


class Delivery:
    """A measured volume of a grade on a day; contract is a number."""

    def __init__(self, contract, day, grade, volume):
        self.contract = contract
        self.day = day
        self.grade = grade
        self.volume = volume


class Bill:
    """A bill; contract is a number, amounts has the bidders in the order of the bid."""

    def __init__(self, contract, day, amounts):
        self.contract = contract
        self.day = day
        self.amounts = amounts


class State:
    """The one object that all calls of a request work on."""

    def __init__(self):
        self.day = 0
        self.sale = None
        self.contracts = []
        self.index_values = {}
        self.deliveries = []
        self.bills = []
        self.paid = [0] * BIDDERS
