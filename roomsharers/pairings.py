"""Pairings: for each guest, in order, with whom they share; 0 is alone."""

from roomsharers.likings import first_rather_pair, may_share


def is_pairing(lists, row):
    for guest in range(1, len(lists)):
        partner = row[guest - 1]
        if partner != 0:
            if not may_share(lists, guest, partner) or row[partner - 1] != guest:
                return False
    return True


def is_stable(lists, pairing):
    return first_rather_pair(lists, pairing) == []


def choices_for_next_guest(lists, row):
    """Whom the guest behind those of row can share with, rising, if row is the beginning of a pairing."""
    guest = len(row) + 1
    if guest in row:
        return [row.index(guest) + 1]
    choices = [0]
    for other in range(guest + 1, len(lists)):
        if other not in row and may_share(lists, guest, other):
            choices.append(other)
    return choices


def all_pairings(lists):
    """All pairings, in order: rows that are lengthened in order by rising choices stay in order."""
    rows = [[]]
    for guest in range(1, len(lists)):
        longer = []
        for row in rows:
            for partner in choices_for_next_guest(lists, row):
                longer.append(row + [partner])
        rows = longer
    return rows


def stable_pairings(lists):
    return [pairing for pairing in all_pairings(lists) if is_stable(lists, pairing)]
