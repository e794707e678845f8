"""The guests' lists, and what follows from them for two guests.

lists[guest] is the guest's list. lists[0] is nobody's and stays empty: guests are numbered from 1.
"""


def may_share(lists, one, other):
    # Only guests who are there stand on a list, so lists[other] is not reached for anybody else.
    return other in lists[one] and one in lists[other]


def place_on_list(liked, other):
    # Being alone, whether told as 0 or as the guest themselves, is behind everybody on the list.
    if other in liked:
        return liked.index(other)
    return len(liked)


def likes_better(lists, guest, one, other):
    return place_on_list(lists[guest], one) < place_on_list(lists[guest], other)


def best_first(lists, guest, others):
    return sorted(others, key=lambda other: place_on_list(lists[guest], other))


def would_rather_share(lists, held, one, other):
    """held tells for each guest whom the other must be liked better than: the partner, or the one before."""
    if not may_share(lists, one, other):
        return False
    if not likes_better(lists, one, other, held[one - 1]):
        return False
    return likes_better(lists, other, one, held[other - 1])


def first_rather_pair(lists, held):
    """The first two who would rather share; an empty list if there are none."""
    for one in range(1, len(lists)):
        for other in range(one + 1, len(lists)):
            if would_rather_share(lists, held, one, other):
                return [one, other]
    return []


def rather_pairs(lists, held):
    """All two who would rather share, in order."""
    found = []
    for one in range(1, len(lists)):
        for other in range(one + 1, len(lists)):
            if would_rather_share(lists, held, one, other):
                found.append([one, other])
    return found
