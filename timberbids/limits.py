"""The error codes and the limits of the document."""

OUT_OF_RANGE = -1
MISSING = -3
ALREADY_DONE = -8
NOT_POSSIBLE = -4
FULL = -9

GRADES = 10
BIDDERS = 16

MAX_DAY = 99999
MAX_RULE = 1
MAX_ADVANCE = 1000
MAX_RESERVE = 1000000000
MAX_VOLUME = 1000000
MAX_PRICE = 1000000
MAX_BIDDER = 15
MAX_LIMIT = 12
MIN_WEIGHT = 1
MAX_WEIGHT = 1000
MIN_INDEX = 1
MAX_INDEX = 10000
MAX_GRADE = 9
MAX_AMOUNT = 1000000000
BIDDER_ROW_LENGTHS = (2, 4, 6, 8)

MAX_LOTS = 10
MAX_BIDS = 12
MAX_CONTRACTS = 24
MAX_INDEX_DAYS = 16
MAX_DELIVERIES = 64
MAX_BILLS = 48

# Reserve prices are told in cents, values in millicents.
MILLICENTS = 1000

# The advance rate is told in thousandths of the estimate.
THOUSANDTHS = 1000

# The index of a day ahead of all days for which a value was set.
INDEX_AT_FIRST = 1000
