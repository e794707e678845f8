"""What an accepted call that asks something answers behind its 0."""

from roomsharers.likings import best_first, first_rather_pair, likes_better, rather_pairs
from roomsharers.pairings import all_pairings, is_pairing, settled, stable_pairings
from roomsharers.rings import first_rings, first_unwilling, is_rings, odd_guests, ones_before


def tell_pairs(lists):
    stable = stable_pairings(lists)
    if stable == []:
        return [0]
    return [1] + stable[0]


def counted(numbers):
    return [len(numbers)] + numbers


def tell_rings(lists):
    row = first_rings(lists)
    if row == []:
        return [0]
    return [1] + row + counted(odd_guests(row))


def tell_check(lists, row):
    if not is_pairing(lists, row):
        return [1]
    pair = first_rather_pair(lists, row)
    if pair == []:
        return [0]
    return [2] + pair


def tell_prove(lists, row):
    if not is_rings(lists, row):
        return [1]
    unwilling = first_unwilling(lists, row)
    if unwilling != 0:
        return [2, unwilling]
    pair = first_rather_pair(lists, ones_before(row))
    if pair != []:
        return [3] + pair
    return [0] + counted(odd_guests(row))


def tell_partners(lists, guest):
    partners = []
    for pairing in stable_pairings(lists):
        partner = pairing[guest - 1]
        if partner not in partners:
            partners.append(partner)
    return counted(best_first(lists, guest, partners))


def tell_count(lists):
    return [len(all_pairings(lists)), len(stable_pairings(lists))]


def tell_blocks(lists, pairing):
    pairs = rather_pairs(lists, pairing)
    told = [len(pairs)]
    for pair in pairs:
        told.extend(pair)
    return told


def tell_settle(lists, times, pairing):
    outcome = settled(lists, pairing, times)
    return [outcome[0]] + outcome[1]


def tell_prefer(lists, guest, one, other):
    if likes_better(lists, guest, one, other):
        return [1]
    if likes_better(lists, guest, other, one):
        return [2]
    return [0]


def tell_rooms(lists, booked):
    if not is_pairing(lists, booked):
        return booked + [0]
    return booked + [1] + tell_blocks(lists, booked)


def tell_lists(lists):
    told = [len(lists) - 1]
    for guest in range(1, len(lists)):
        told.extend(counted(lists[guest]))
    return told
