"""Coded words: one flip of a word can be mended, and two can be told."""


def places_of(bits):
    """The number of places of a word with so many data bits."""
    turns = 0
    while (1 << turns) < bits + turns + 1:
        turns = turns + 1
    return bits + turns + 1


def check_places(bits):
    """The list of the check places, ascending: 0 and the powers of two."""
    return [place for place in range(places_of(bits)) if place & (place - 1) == 0]


def data_places(bits):
    """The list of the places that carry the data bits, ascending."""
    return [place for place in range(places_of(bits)) if place & (place - 1) != 0]


def coded(bits, value):
    """The word with this value."""
    row = 0
    for at, place in enumerate(data_places(bits)):
        row = row | ((value >> at & 1) << place)
    # The check place 2 ** k turns just the digit k of the spot, so these places turn all of it to 0.
    spot = spot_of(bits, row)
    row = flipped(row, [place for place in check_places(bits) if spot & place])
    return row | (ones_in(row) & 1)


def value_in(bits, row):
    """The value in the data places of the row, as they stand."""
    return sum([(row >> place & 1) << at for at, place in enumerate(data_places(bits))])


def ones_in(row):
    """How many digits of the row are 1."""
    return len(differing(row, 0))


def spot_of(bits, row):
    """The spot of the row: what the numbers of its places with a 1 give by adding without carrying."""
    spot = 0
    for place in range(places_of(bits)):
        if row >> place & 1:
            spot = spot ^ place
    return spot


def state_of(bits, row):
    """Whether the row is clean, one flip from a word, and by which place, or more flips from all words."""
    spot = spot_of(bits, row)
    if ones_in(row) & 1:
        return ("one", spot) if spot < places_of(bits) else ("more", None)
    return ("clean", None) if spot == 0 else ("more", None)


def mended(bits, row):
    """The word that the row is or is one flip away from, or None if there is none."""
    state, place = state_of(bits, row)
    if state == "more":
        return None
    return row if place is None else flipped(row, [place])


def flipped(row, places):
    """The row with the places flipped, one after another."""
    for place in places:
        row = row ^ (1 << place)
    return row


def differing(one, other):
    """The list of the places at which two rows differ, ascending."""
    change = one ^ other
    return [place for place in range(change.bit_length()) if change >> place & 1]


def count_rows(bits):
    """How many rows are clean, one flip from a word, and more."""
    places = places_of(bits)
    clean = 1 << bits
    # No row is one flip from two words, as two words differ in at least four places.
    one = clean * places
    return (clean, one, (1 << places) - clean - one)
