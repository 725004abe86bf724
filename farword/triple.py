"""Three copies of a value, and what two of three say of it."""

from math import comb

COPIES = 3


def by_bits(copies):
    """The integer each of whose digits two or three of the copies have."""
    one, two, three = copies
    return one & two | one & three | two & three


def by_words(copies):
    """The integer that two or three of the copies are, or None."""
    one, two, three = copies
    if one == two or one == three:
        return one
    return two if two == three else None


def odd_copies(copies):
    """The list of the numbers of the copies that are not the value by bits, ascending."""
    value = by_bits(copies)
    return [at for at, copy in enumerate(copies) if copy != value]


def is_sure(flips):
    """Whether the value by bits is right if the copies are flipped at these places."""
    # What two or three of the flips have is flipped in two copies or in all.
    return by_bits(flips) == 0


def word_outcome(flips):
    """Whether the value by words is right, wrong or none if the copies are flipped at these places."""
    change = by_words(flips)
    if change is None:
        return "none"
    return "right" if change == 0 else "wrong"


def ways_right_by_bits(bits, flips):
    """How many ways of so many flips there are that flip no place in two copies."""
    ways = comb(bits, flips)
    for _ in range(flips):
        ways = ways * COPIES
    return ways


def ways_right_by_words(bits, flips):
    """How many ways of so many flips there are that leave two copies as they are."""
    return 1 if flips == 0 else COPIES * comb(bits, flips)


def ways_wrong_by_words(bits, flips):
    """How many ways of so many flips there are that flip two copies at just the same places."""
    ways = 0
    for same in range(1, flips // 2 + 1):
        rest = flips - 2 * same
        ways = ways + COPIES * comb(bits, same) * comb(bits, rest)
        if rest == same:
            # All three copies may be flipped alike: such a way was counted once for each two of them.
            ways = ways - (COPIES - 1) * comb(bits, same)
    return ways


def ways_of(bits, flips):
    """How many ways of so many flips there are: all, right by bits, and right, wrong and none by words."""
    ways = comb(COPIES * bits, flips)
    right = ways_right_by_words(bits, flips)
    wrong = ways_wrong_by_words(bits, flips)
    return (ways, ways_right_by_bits(bits, flips), right, wrong, ways - right - wrong)
