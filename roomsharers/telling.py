"""What an accepted call that asks something answers behind its 0."""

from roomsharers.likings import first_rather_pair, place_on_list
from roomsharers.pairings import all_pairings, is_pairing, stable_pairings
from roomsharers.rings import first_rings, first_unwilling, is_rings, odd_guests, ones_before


def tell_pairs(lists):
    stable = stable_pairings(lists)
    if stable == []:
        return [0]
    return [1] + stable[0]


def counted(numbers):
    return [len(numbers)] + numbers


def tell_rings(lists):
    row = first_rings(lists)
    if row == []:
        return [0]
    return [1] + row + counted(odd_guests(row))


def tell_check(lists, row):
    if not is_pairing(lists, row):
        return [1]
    pair = first_rather_pair(lists, row)
    if pair == []:
        return [0]
    return [2] + pair


def tell_prove(lists, row):
    if not is_rings(lists, row):
        return [1]
    unwilling = first_unwilling(lists, row)
    if unwilling != 0:
        return [2, unwilling]
    pair = first_rather_pair(lists, ones_before(row))
    if pair != []:
        return [3] + pair
    return [0] + counted(odd_guests(row))


def tell_partners(lists, guest):
    partners = []
    for pairing in stable_pairings(lists):
        partner = pairing[guest - 1]
        if partner not in partners:
            partners.append(partner)
    return counted(sorted(partners, key=lambda other: place_on_list(lists[guest], other)))


def tell_count(lists):
    return [len(all_pairings(lists)), len(stable_pairings(lists))]
