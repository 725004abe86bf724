"""Rows of orders that surely bring a wish, and papers which show that there is none."""

from farword.books import is_order
from farword.errors import InvalidInput, TooLarge
from farword.machine import Coming
from farword.steps import ascending, lots_of, orders_of

MOST_CROWDS = 500


def meets(standing, wish):
    """Whether the standing meets the wish."""
    mode, on, off = wish
    if mode is not None and mode != standing[0]:
        return False
    lot = standing[1]
    return all([hold in lot for hold in on]) and not any([hold in lot for hold in off])


def all_meet(standings, wish):
    """Whether all of the standings meet the wish."""
    return all([meets(standing, wish) for standing in standings])


def check_orders(book, orders):
    """Raises InvalidInput for the first thing in the list that is neither None nor an order of the book."""
    for order in orders:
        if order is not None and not is_order(book, order):
            raise InvalidInput(f"no order of the book: {order!r}")


def ways_behind(coming, ways, order):
    """The ways to all that can come by the order of what the ways lead to, one way to each.

    A way is told for the standing that it leads to: where it begins, and by which inputs it goes.
    """
    behind = {}
    for standing, (begin, inputs) in ways.items():
        for next_one, alarms in coming.behind(standing, order).items():
            if next_one not in behind:
                behind[next_one] = (begin, [*inputs, (alarms, order)])
    return behind


def ways_by(book, crowd, orders, alarms):
    """The ways to all that can come of the crowd by the row of orders, one way to each. Raises InvalidInput."""
    check_orders(book, orders)
    coming = Coming(book, lots_of(alarms))
    ways = {standing: (standing, []) for standing in crowd}
    for order in orders:
        ways = ways_behind(coming, ways, order)
    return ways


def comes_of(book, crowd, order, alarms):
    """The crowd that can come of the crowd by the order, or None. Raises InvalidInput."""
    return ascending(list(ways_by(book, crowd, [order], alarms)))


def brings(book, crowd, orders, wish, alarms):
    """Whether the row of orders brings the wish from the crowd. Raises InvalidInput."""
    return all_meet(list(ways_by(book, crowd, orders, alarms)), wish)


def miss_of(book, crowd, orders, wish, alarms):
    """None if the row of orders brings the wish, or a standing of the crowd and inputs by which it misses.

    Raises InvalidInput.
    """
    for standing, way in ways_by(book, crowd, orders, alarms).items():
        if not meets(standing, wish):
            return way
    return None


class Crowds:
    """Crowds of standings of a book, and what can come of them; each standing in them is told by a number."""

    def __init__(self, book, alarms):
        self.orders = orders_of(book)
        self._alarmed = Coming(book, lots_of(alarms))
        self._numbers = {}
        self._standings = []
        self._behind = {}
        self._coming = {}

    def numbered(self, standings):
        """The crowd of these standings."""
        return tuple(sorted(set([self._number_of(standing) for standing in standings])))

    def standings_of(self, crowd):
        """The list of the standings of the crowd, ascending."""
        return ascending([self._standings[number] for number in crowd])

    def is_wished(self, crowd, wish):
        """Whether all standings of the crowd meet the wish."""
        return all_meet([self._standings[number] for number in crowd], wish)

    def coming_of(self, crowd):
        """The list of the crowds that can come of the crowd, for none and each order, in order."""
        if crowd not in self._coming:
            self._coming[crowd] = [self._come_by(crowd, order) for order in self.orders]
        return self._coming[crowd]

    def _number_of(self, standing):
        if standing not in self._numbers:
            self._numbers[standing] = len(self._standings)
            self._standings.append(standing)
        return self._numbers[standing]

    def _come_by(self, crowd, order):
        behind = [self._behind_one(number, order) for number in crowd]
        return tuple(sorted(set([number for numbers in behind for number in numbers])))

    def _behind_one(self, number, order):
        """The numbers of all standings that can come of one by the order."""
        key = (number, order)
        if key not in self._behind:
            self._behind[key] = self.numbered(list(self._alarmed.behind(self._standings[number], order)))
        return self._behind[key]


def crowds_behind(crowds, rows, last):
    """The dict from the crowds that can come of the last ones, and have no row yet, to their first rows.

    Raises TooLarge if they and those with a row are too many.
    """
    behind = {}
    for crowd in last:
        for order, came in zip(crowds.orders, crowds.coming_of(crowd)):
            if came not in rows and came not in behind:
                behind[came] = [*rows[crowd], order]
        if len(rows) + len(behind) > MOST_CROWDS:
            raise TooLarge(f"more than {MOST_CROWDS} crowds can come")
    return behind


def first_row(crowds, start, wish, most):
    """The first row of at most so many orders that brings the wish from the crowd, or None. Raises TooLarge."""
    if crowds.is_wished(start, wish):
        return []
    rows = {start: []}
    last = [start]
    for _ in range(most):
        behind = crowds_behind(crowds, rows, last)
        # All crowds that come by as many orders are counted, also where one of the first ones meets the wish.
        for crowd, row in behind.items():
            if crowds.is_wished(crowd, wish):
                return row
            rows[crowd] = row
        last = list(behind)
    return None


def best_row(book, crowd, wish, alarms, most):
    """The first row of at most so many orders that brings the wish, or None. Raises TooLarge."""
    crowds = Crowds(book, alarms)
    return first_row(crowds, crowds.numbered(crowd), wish, most)


def none_paper(book, crowd, wish, alarms, most):
    """A paper which shows that no row of at most so many orders brings the wish, or None. Raises TooLarge."""
    crowds = Crowds(book, alarms)
    start = crowds.numbered(crowd)
    if first_row(crowds, start, wish, most) is not None:
        return None
    paper = [[start]]
    for _ in range(most):
        coming = {came: True for last in paper[-1] for came in crowds.coming_of(last)}
        paper.append(list(coming))
    return [[crowds.standings_of(told) for told in told_crowds] for told_crowds in paper]


def is_part(crowd, other):
    """Whether all that is in the crowd is in the other one."""
    for number in crowd:
        if number not in other:
            return False
    return True


def has_part(parts, crowd):
    """Whether some crowd of the list is part of the crowd."""
    whole = {number: True for number in crowd}
    for part in parts:
        if is_part(part, whole):
            return True
    return False


def leads_on(crowds, crowd, parts):
    """Whether of all that can come of the crowd by none and by each order some crowd of the list is part."""
    return all([came in parts or has_part(parts, came) for came in crowds.coming_of(crowd)])


def check_none(book, crowd, wish, alarms, paper):
    """Whether the paper shows that no row of fewer orders than it has lists brings the wish from the crowd."""
    if len(paper) == 0:
        return False
    crowds = Crowds(book, alarms)
    lists = [[crowds.numbered(told) for told in told_crowds] for told_crowds in paper]
    if not has_part(lists[0], crowds.numbered(crowd)):
        return False
    if any([crowds.is_wished(told, wish) for told_crowds in lists for told in told_crowds]):
        return False
    for here, behind in zip(lists, lists[1:]):
        if not all([leads_on(crowds, told, behind) for told in here]):
            return False
    return True
