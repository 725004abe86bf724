"""Books that are alike: the first history that parts two books, and lists of pairs that show that there is none."""

from farword.books import names_of
from farword.closed import inputs_to
from farword.errors import InvalidBook, TooLarge
from farword.steps import KeptTicks, alarm_lots, first_standing, is_standing, orders_of

MOST_PAIRS = 2000


def all_names(book):
    """The names of the holds, commands, alarms and rows of the book, each sort ascending."""
    return [sorted(book.holds)] + [sorted(names_of(parts)) for parts in (book.commands, book.alarms, book.rows)]


def can_be_compared(one, other):
    """Whether the two books have the same holds, commands, alarms and rows by their names."""
    return all_names(one) == all_names(other)


def demand_compared(one, other):
    """Raises InvalidBook if the two books cannot be compared."""
    if not can_be_compared(one, other):
        raise InvalidBook("the books cannot be compared")


def kept_ticks(book):
    """The ticks of the book by all lots of its alarms."""
    return KeptTicks(book, alarm_lots(book))


def first_pair(one, other):
    """The pair of the first standings of two books."""
    return (first_standing(one), first_standing(other))


def has_same_holds(pair):
    """Whether the same holds are on in both standings of the pair."""
    return pair[0][1] == pair[1][1]


def alarmed_pairs(one, other, pair):
    """For each lot of alarms a tuple of the lot and the pair to which its effects lead from the pair."""
    found = []
    for told, told_other in zip(one.alarmed(pair[0]), other.alarmed(pair[1])):
        # Both have the same lots of alarms in the same order, as their books can be compared.
        found.append((told[0], (told[1], told_other[1])))
    return found


def pair_behind(one, other, pair, order):
    """The pair behind a tick without alarms by the order, or None if it does not show the same in both."""
    step = one.step(pair[0], order)
    step_other = other.step(pair[1], order)
    behind = (step.standing, step_other.standing)
    if step.done != step_other.done or step.refused != step_other.refused or not has_same_holds(behind):
        return None
    return behind


def compared(one, other):
    """Compares the books of two KeptTicks that can be compared.

    Tells the dict from the pairs that histories ahead of the first parting one lead to, in order, to the pair ahead
    and the input; and the first parting history, or None. Raises TooLarge.
    """
    orders = orders_of(one.book)
    start = first_pair(one.book, other.book)
    found = {start: None}
    if not has_same_holds(start):
        return (found, [])
    waiting = [start]
    half_ways = set()
    at = 0
    while at < len(waiting):
        pair = waiting[at]
        at = at + 1
        for alarms, half_way in alarmed_pairs(one, other, pair):
            # From where the orders were obeyed before, they lead nowhere new and part nothing.
            if half_way in half_ways:
                continue
            half_ways.add(half_way)
            for order in orders:
                behind = pair_behind(one, other, half_way, order)
                if behind is None:
                    return (found, [*inputs_to(found, pair), (alarms, order)])
                if behind not in found:
                    found[behind] = (pair, (alarms, order))
                    waiting.append(behind)
                if len(found) > MOST_PAIRS:
                    raise TooLarge(f"histories lead to more than {MOST_PAIRS} pairs of standings")
    return (found, None)


def parting_history(one, other):
    """The first parting history, or None if the books are alike. Raises InvalidBook, TooLarge."""
    demand_compared(one, other)
    _, history = compared(kept_ticks(one), kept_ticks(other))
    return history


def pairs_of(one, other):
    """The list of all pairs that histories lead to, in order, or None if the books are not alike.

    Raises InvalidBook, TooLarge.
    """
    demand_compared(one, other)
    found, history = compared(kept_ticks(one), kept_ticks(other))
    return list(found) if history is None else None


def are_standings(one, other, pairs):
    """Whether all of the pairs are a standing of the one book and one of the other."""
    return all([is_standing(one, pair[0]) and is_standing(other, pair[1]) for pair in pairs])


def check_pairs(one, other, pairs):
    """Whether the list has pairs of standings alone, and shows that the books are alike. Raises InvalidBook."""
    demand_compared(one, other)
    start = first_pair(one, other)
    known = set(pairs)
    if not are_standings(one, other, pairs) or start not in known or not has_same_holds(start):
        return False
    kept, kept_other = kept_ticks(one), kept_ticks(other)
    orders = orders_of(one)
    staying = set()
    for pair in pairs:
        for _, half_way in alarmed_pairs(kept, kept_other, pair):
            if half_way in staying:
                continue
            for order in orders:
                behind = pair_behind(kept, kept_other, half_way, order)
                if behind is None or behind not in known:
                    return False
            staying.add(half_way)
    return True


def are_alike(kept, other):
    """Whether the book of the KeptTicks is alike to another one. Raises TooLarge."""
    _, history = compared(kept, kept_ticks(other))
    return history is None


def needless_alarms(book):
    """The list of the names of all needless alarms, in the order of the book. Raises TooLarge."""
    kept = kept_ticks(book)
    names = names_of(book.alarms)
    return [name for name in names if are_alike(kept, book.with_part("alarm", (name, (), (), None)))]


def needless_commands(book):
    """The list of the names of all needless commands, ascending. Raises TooLarge."""
    kept = kept_ticks(book)
    needless = []
    for name, _, on, off, to in book.commands:
        if are_alike(kept, book.with_part("command", (name, (), on, off, to))):
            needless.append(name)
    return needless
