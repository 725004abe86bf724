"""Books that are alike: the first history that parts two books, and lists of pairs that show that there is none."""

from farword.books import names_of
from farword.closed import inputs_to, machine_of
from farword.errors import InvalidBook, TooLarge
from farword.machine import Walk
from farword.steps import is_standing

MOST_PAIRS = 2000


def all_names(book):
    """The names of the holds, commands, alarms and rows of the book, each sort ascending."""
    return [sorted(book.holds)] + [sorted(names_of(parts)) for parts in (book.commands, book.alarms, book.rows)]


def can_be_compared(one, other):
    """Whether the two books have the same holds, commands, alarms and rows by their names."""
    return all_names(one) == all_names(other)


def demand_compared(one, other):
    """Raises InvalidBook if the two books cannot be compared."""
    if not can_be_compared(one, other):
        raise InvalidBook("the books cannot be compared")


class PairMachine:
    """The machines of two books that can be compared, side by side: it tells of pairs what they tell of standings.

    What comes of a tick is told as the pair behind it, whether the tick shows the same in both, and that no moment is
    barred, as pairs are not asked for this.
    """

    def __init__(self, one, other):
        self._one = one
        self._other = other
        # Both have the same orders and the same lots of alarms in the same order, as the books can be compared.
        self.orders = one.orders
        self.first = (one.first, other.first)

    def has_same_holds(self, pair):
        """Whether the same holds are on in both standings of the pair."""
        return self._one.lot_of(pair[0]) == self._other.lot_of(pair[1])

    def number_of(self, pair):
        """The pair of the numbers of two standings."""
        return (self._one.number_of(pair[0]), self._other.number_of(pair[1]))

    def pair_of(self, pair):
        """The pair of the standings with these numbers."""
        return (self._one.standing_of(pair[0]), self._other.standing_of(pair[1]))

    def core_of(self, pair):
        """The pair of the cores."""
        return (self._one.core_of(pair[0]), self._other.core_of(pair[1]))

    def stopped(self, pair):
        """The pair without rows."""
        return (self._one.stopped(pair[0]), self._other.stopped(pair[1]))

    def half_ways(self, pair):
        """For each lot of alarms but the empty one the lot, the pair where it leads half way, and False."""
        half_ways = zip(self._one.half_ways(pair[0]), self._other.half_ways(pair[1]))
        return [(told[0], (told[1], told_other[1]), False) for told, told_other in half_ways]

    def waited(self, pair):
        """What comes of a tick without alarms and without an order."""
        return self._outcome(self._one.waited(pair[0]), self._other.waited(pair[1]))

    def ordered(self, cores):
        """The list of what comes of ticks without alarms by each order, in order, from pairs with these cores."""
        outcomes = zip(self._one.ordered(cores[0]), self._other.ordered(cores[1]))
        return [self._outcome(told, told_other) for told, told_other in outcomes]

    def _outcome(self, told, told_other):
        behind = (told[0], told_other[0])
        return (behind, told[1] == told_other[1] and self.has_same_holds(behind), False)


def pair_machine(one, other):
    """The machines of two books that can be compared, side by side."""
    return PairMachine(machine_of(one), machine_of(other))


def compared(machine):
    """Compares the two books of the machine.

    Tells the dict from the pairs that histories ahead of the first parting one lead to, in order, to the pair ahead
    and the input; and the first parting history, or None. Raises TooLarge.
    """
    found = {machine.first: None}
    if not machine.has_same_holds(machine.first):
        return (found, [])
    walk = Walk(machine)
    waiting = [machine.first]
    at = 0
    while at < len(waiting):
        pair = waiting[at]
        at = at + 1
        for told, (behind, is_same, _) in walk.ticks_from(pair):
            if not is_same:
                return (found, [*inputs_to(found, pair), told])
            if behind not in found:
                found[behind] = (pair, told)
                waiting.append(behind)
            if len(found) > MOST_PAIRS:
                raise TooLarge(f"histories lead to more than {MOST_PAIRS} pairs of standings")
    return (found, None)


def parting_history(one, other):
    """The first parting history, or None if the books are alike. Raises InvalidBook, TooLarge."""
    demand_compared(one, other)
    _, history = compared(pair_machine(one, other))
    return history


def pairs_of(one, other):
    """The list of all pairs that histories lead to, in order, or None if the books are not alike.

    Raises InvalidBook, TooLarge.
    """
    demand_compared(one, other)
    machine = pair_machine(one, other)
    found, history = compared(machine)
    return [machine.pair_of(pair) for pair in found] if history is None else None


def are_standings(one, other, pairs):
    """Whether all of the pairs are a standing of the one book and one of the other."""
    return all([is_standing(one, pair[0]) and is_standing(other, pair[1]) for pair in pairs])


def check_pairs(one, other, pairs):
    """Whether the list has pairs of standings alone, and shows that the books are alike. Raises InvalidBook."""
    demand_compared(one, other)
    if not are_standings(one, other, pairs):
        return False
    machine = pair_machine(one, other)
    numbers = [machine.number_of(pair) for pair in pairs]
    known = set(numbers)
    if machine.first not in known or not machine.has_same_holds(machine.first):
        return False
    walk = Walk(machine)
    for pair in numbers:
        for _, (behind, is_same, _) in walk.ticks_from(pair):
            if not is_same or behind not in known:
                return False
    return True


def are_alike(machine, other):
    """Whether the book of the machine is alike to another one. Raises TooLarge."""
    _, history = compared(PairMachine(machine, machine_of(other)))
    return history is None


def needless_alarms(book):
    """The list of the names of all needless alarms, in the order of the book. Raises TooLarge."""
    machine = machine_of(book)
    names = names_of(book.alarms)
    return [name for name in names if are_alike(machine, book.with_part("alarm", (name, (), (), None)))]


def needless_commands(book):
    """The list of the names of all needless commands, ascending. Raises TooLarge."""
    machine = machine_of(book)
    needless = []
    for name, _, on, off, to in book.commands:
        if are_alike(machine, book.with_part("command", (name, (), on, off, to))):
            needless.append(name)
    return needless
