"""How calls stand one behind another in a list of whole numbers, and the ranges told for their numbers."""

BEGIN = 0
TAKE_LIST = 1
PAIRS = 2
RINGS = 3
CHECK = 4
PROVE = 5
PARTNERS = 6
COUNT = 7
NTH = 8
MEDIAN = 9
BLOCKS = 10
SETTLE = 11
PREFER = 12
BOOK = 13
ROOMS = 14
JOIN = 15
LISTS = 16

# For each call the least and the greatest of each of its whole numbers; how many they are is its layout, too.
NUMBER_RANGES = {
    0: ((1, 7),),
    1: ((1, 7),),
    2: (),
    3: (),
    4: (),
    5: (),
    6: ((1, 7),),
    7: (),
    8: ((1, 1000),),
    9: ((1, 1000), (1, 1000), (1, 1000)),
    10: (),
    11: ((0, 50),),
    12: ((1, 7), (0, 7), (0, 7)),
    13: (),
    14: (),
    15: ((1, 7), (1, 7)),
    16: (),
}

# The calls that have a list, and how many numbers it may have.
LONGEST_ROWS = {1: 6, 4: 7, 5: 7, 10: 7, 11: 7, 13: 7}

GREATEST_IN_ROW = 7


def read_calls(numbers):
    """The calls, in order, each as its number, its whole numbers and its row (empty if it has none)."""
    found = []
    start = 0
    while start < len(numbers):
        call = numbers[start]
        end = start + 1 + len(NUMBER_RANGES[call])
        told = numbers[start + 1:end]
        row = []
        if call in LONGEST_ROWS:
            row_start = end + 1
            end = row_start + numbers[end]
            row = numbers[row_start:end]
        found.append((call, told, row))
        start = end
    return found


def numbers_in_range(call, told):
    ranges = NUMBER_RANGES[call]
    for place in range(len(ranges)):
        if told[place] < ranges[place][0] or told[place] > ranges[place][1]:
            return False
    return True


def row_in_range(call, row):
    if call in LONGEST_ROWS and len(row) > LONGEST_ROWS[call]:
        return False
    for number in row:
        if number < 0 or number > GREATEST_IN_ROW:
            return False
    return True


def in_range(call, told, row):
    return numbers_in_range(call, told) and row_in_range(call, row)
