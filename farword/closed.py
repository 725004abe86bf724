"""Histories: the standings that they reach, the first barred one, and tables that show that there is none."""

from farword.errors import TooLarge
from farword.steps import KeptTicks, alarm_lots, first_standing, is_barred, is_standing, orders_of, run_of

MOST_STANDINGS = 2000


def found_standings(book):
    """A dict from the reached standings, in order, to the standing and the input that lead to them first.

    Raises TooLarge.
    """
    kept = KeptTicks(book, alarm_lots(book))
    orders = orders_of(book)
    found = {first_standing(book): None}
    waiting = list(found)
    half_ways = set()
    at = 0
    while at < len(waiting):
        standing = waiting[at]
        at = at + 1
        for alarms, half_way, _ in kept.alarmed(standing):
            # The orders lead nowhere new from where they were obeyed before.
            if half_way in half_ways:
                continue
            half_ways.add(half_way)
            for order in orders:
                behind = kept.step(half_way, order).standing
                if behind not in found:
                    found[behind] = (standing, (alarms, order))
                    waiting.append(behind)
            if len(found) > MOST_STANDINGS:
                raise TooLarge(f"more than {MOST_STANDINGS} standings are reached")
    return found


def inputs_to(found, last):
    """The inputs that lead to what was found, by a dict that tells for each what is ahead of it, and the input."""
    inputs = []
    while found[last] is not None:
        last, told = found[last]
        inputs.append(told)
    return inputs[::-1]


def reached(book):
    """The list of all reached standings, in the order of their first histories. Raises TooLarge."""
    return list(found_standings(book))


def history_to(book, standing):
    """The first history that leads to the standing, or None if it is not reached. Raises TooLarge."""
    found = found_standings(book)
    return inputs_to(found, standing) if standing in found else None


def is_first_barred(book):
    """Whether the moment of the first standing is barred."""
    return is_barred(book, first_standing(book)[1])


def first_barred_tick(book, standings):
    """The first of the standings, and from it the first input, of a tick with a barred moment, or None."""
    kept = KeptTicks(book, alarm_lots(book))
    orders = orders_of(book)
    clean = set()
    for standing in standings:
        for alarms, half_way, moments in kept.alarmed(standing):
            if kept.has_barred(moments):
                return (standing, (alarms, None))
            if half_way in clean:
                continue
            for order in orders:
                if kept.has_barred(kept.step(half_way, order).moments):
                    return (standing, (alarms, order))
            clean.add(half_way)
    return None


def verdict(book):
    """Clean with the list of all reached standings, or barred with the first barred history. Raises TooLarge."""
    found = found_standings(book)
    if is_first_barred(book):
        return ("barred", [])
    barred = first_barred_tick(book, list(found))
    if barred is None:
        return ("clean", list(found))
    standing, told = barred
    # A shortest barred history leads to this standing by its first history.
    return ("barred", [*inputs_to(found, standing), told])


def is_closed(book, standings):
    """Whether the first standing is in the list of standings, and behind each tick from one of them another one."""
    kept = KeptTicks(book, alarm_lots(book))
    orders = orders_of(book)
    known = set(standings)
    staying = set()
    if first_standing(book) not in known:
        return False
    for standing in standings:
        for _, half_way, _ in kept.alarmed(standing):
            if half_way in staying:
                continue
            for order in orders:
                if kept.step(half_way, order).standing not in known:
                    return False
            staying.add(half_way)
    return True


def is_clean(book, standings):
    """Whether no moment is barred: that of the first standing, and those of all ticks from the standings."""
    return not is_first_barred(book) and first_barred_tick(book, standings) is None


def check_table(book, table):
    """Whether the list of tuples has standings alone, and is closed and clean."""
    if not all([is_standing(book, value) for value in table]):
        return False
    return is_closed(book, table) and is_clean(book, table)


def is_barred_history(book, history):
    """Whether the last tick of the history has a barred moment. Raises InvalidInput."""
    steps = run_of(book, history)
    if len(steps) == 0:
        return is_first_barred(book)
    return any([is_barred(book, lot) for lot in steps[-1].moments])
