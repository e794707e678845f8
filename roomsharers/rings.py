"""Rings: for each guest, in order, the next one; a guest whose next one is themselves is alone."""

from roomsharers.likings import first_rather_pair, likes_better, may_share


def may_follow(lists, guest, follower):
    return follower == guest or may_share(lists, guest, follower)


def is_rings(lists, row):
    for guest in range(1, len(lists)):
        if row.count(guest) != 1 or not may_follow(lists, guest, row[guest - 1]):
            return False
    return True


def ones_before(row):
    return [row.index(guest) + 1 for guest in range(1, len(row) + 1)]


def is_willing(lists, row, guest):
    """Whether the guest's next one is the one before, or is liked better.

    In the beginning of rings one of the two may not be told yet; then nothing speaks against the guest.
    """
    if guest > len(row) or guest not in row:
        return True
    follower = row[guest - 1]
    before = row.index(guest) + 1
    return follower == before or likes_better(lists, guest, follower, before)


def first_unwilling(lists, row):
    """The first guest who doesn't like the next one better than the one before; 0 if there is none."""
    for guest in range(1, len(lists)):
        if not is_willing(lists, row, guest):
            return guest
    return 0


def lengthened(lists, row):
    """The beginnings of rings that are one guest longer than row, in order, with no unwilling guest."""
    guest = len(row) + 1
    found = []
    for follower in range(1, len(lists)):
        if follower not in row and may_follow(lists, guest, follower):
            longer = row + [follower]
            # Only these two have had something told anew.
            if is_willing(lists, longer, guest) and is_willing(lists, longer, follower):
                found.append(longer)
    return found


def willing_rings(lists):
    """All rings without an unwilling guest, in order."""
    rows = [[]]
    for guest in range(1, len(lists)):
        longer = []
        for row in rows:
            longer.extend(lengthened(lists, row))
        rows = longer
    return rows


def first_rings(lists):
    """The first rings that hold; an empty list if none do."""
    for row in willing_rings(lists):
        if first_rather_pair(lists, ones_before(row)) == []:
            return row
    return []


def ring_length(row, guest):
    length = 1
    follower = row[guest - 1]
    while follower != guest:
        length = length + 1
        follower = row[follower - 1]
    return length


def is_odd(row, guest):
    length = ring_length(row, guest)
    return length >= 3 and length % 2 == 1


def odd_guests(row):
    return [guest for guest in range(1, len(row) + 1) if is_odd(row, guest)]
