"""Pairings: for each guest, in order, with whom they share; 0 is alone."""

from roomsharers.likings import best_first, first_rather_pair, may_share


def is_pairing(lists, row):
    for guest in range(1, len(lists)):
        partner = row[guest - 1]
        if partner != 0:
            if not may_share(lists, guest, partner) or row[partner - 1] != guest:
                return False
    return True


def is_stable(lists, pairing):
    return first_rather_pair(lists, pairing) == []


def choices_for_next_guest(lists, row):
    """Whom the guest behind those of row can share with, rising, if row is the beginning of a pairing."""
    guest = len(row) + 1
    if guest in row:
        return [row.index(guest) + 1]
    choices = [0]
    for other in range(guest + 1, len(lists)):
        if other not in row and may_share(lists, guest, other):
            choices.append(other)
    return choices


def all_pairings(lists):
    """All pairings, in order: rows that are lengthened in order by rising choices stay in order."""
    rows = [[]]
    for guest in range(1, len(lists)):
        longer = []
        for row in rows:
            for partner in choices_for_next_guest(lists, row):
                longer.append(row + [partner])
        rows = longer
    return rows


def stable_pairings(lists):
    return [pairing for pairing in all_pairings(lists) if is_stable(lists, pairing)]


def gone_together(pairing, one, other):
    """The pairing once these two share; whoever shared with one of them is alone."""
    changed = [0 if partner == one or partner == other else partner for partner in pairing]
    changed[one - 1] = other
    changed[other - 1] = one
    return changed


def settled(lists, pairing, times):
    """How often the first two who would rather share went together, at most so many times, and what came of it."""
    done = 0
    pair = first_rather_pair(lists, pairing)
    while done < times and pair != []:
        pairing = gone_together(pairing, pair[0], pair[1])
        pair = first_rather_pair(lists, pairing)
        done = done + 1
    return (done, pairing)


def middle_pairing(lists, three):
    """Everybody with whom of the partners in the three pairings they like neither best nor least."""
    middle = []
    for guest in range(1, len(lists)):
        partners = [pairing[guest - 1] for pairing in three]
        # If two of them are the same, that one stands in the middle whatever the third is.
        middle.append(best_first(lists, guest, partners)[1])
    return middle
