"""Histories: the standings that they reach, the first barred one, and tables that show that there is none."""

from farword.errors import TooLarge
from farword.machine import Machine, Walk
from farword.steps import alarm_lots, first_standing, is_barred, is_standing, run_of

MOST_STANDINGS = 2000


def machine_of(book):
    """The machine of the book by all lots of its alarms."""
    return Machine(book, alarm_lots(book))


def found_numbers(machine):
    """A dict from the numbers of the reached standings, in order, to the number and the input that lead to them first.

    Raises TooLarge.
    """
    walk = Walk(machine)
    found = {machine.first: None}
    waiting = [machine.first]
    at = 0
    while at < len(waiting):
        number = waiting[at]
        at = at + 1
        for told, outcome in walk.ticks_from(number):
            behind = outcome[0]
            if behind not in found:
                found[behind] = (number, told)
                waiting.append(behind)
        if len(found) > MOST_STANDINGS:
            raise TooLarge(f"more than {MOST_STANDINGS} standings are reached")
    return found


def inputs_to(found, last):
    """The inputs that lead to what was found, by a dict that tells for each what is ahead of it, and the input."""
    inputs = []
    while found[last] is not None:
        last, told = found[last]
        inputs.append(told)
    return inputs[::-1]


def standings_of(machine, numbers):
    """The list of the standings with these numbers."""
    return [machine.standing_of(number) for number in numbers]


def reached(book):
    """The list of all reached standings, in the order of their first histories. Raises TooLarge."""
    machine = machine_of(book)
    return standings_of(machine, list(found_numbers(machine)))


def history_to(book, standing):
    """The first history that leads to the standing, or None if it is not reached. Raises TooLarge."""
    machine = machine_of(book)
    found = found_numbers(machine)
    number = machine.number_of(standing)
    return inputs_to(found, number) if number in found else None


def is_first_barred(book):
    """Whether the moment of the first standing is barred."""
    return is_barred(book, first_standing(book)[1])


def first_barred_tick(machine, numbers):
    """The first of the numbers of standings, and from it the first input, of a tick with a barred moment, or None."""
    walk = Walk(machine)
    for number in numbers:
        for told, outcome in walk.ticks_from(number):
            _, _, barred = outcome
            if barred:
                return (number, told)
    return None


def verdict(book):
    """Clean with the list of all reached standings, or barred with the first barred history. Raises TooLarge."""
    machine = machine_of(book)
    found = found_numbers(machine)
    if is_first_barred(book):
        return ("barred", [])
    barred = first_barred_tick(machine, list(found))
    if barred is None:
        return ("clean", standings_of(machine, list(found)))
    number, told = barred
    # A shortest barred history leads to this standing by its first history.
    return ("barred", [*inputs_to(found, number), told])


def is_closed(machine, numbers):
    """Whether the first standing is in the list of numbers, and behind each tick from one of them another one."""
    known = set(numbers)
    walk = Walk(machine)
    if machine.first not in known:
        return False
    for number in numbers:
        for _, outcome in walk.ticks_from(number):
            if outcome[0] not in known:
                return False
    return True


def numbers_of(machine, standings):
    """The list of the numbers of the standings."""
    return [machine.number_of(standing) for standing in standings]


def check_table(book, table):
    """Whether the list of tuples has standings alone, and is closed and clean."""
    if not all([is_standing(book, value) for value in table]):
        return False
    machine = machine_of(book)
    numbers = numbers_of(machine, table)
    if not is_closed(machine, numbers):
        return False
    return not is_first_barred(book) and first_barred_tick(machine, numbers) is None


def is_barred_history(book, history):
    """Whether the last tick of the history has a barred moment. Raises InvalidInput."""
    steps = run_of(book, history)
    if len(steps) == 0:
        return is_first_barred(book)
    return any([is_barred(book, lot) for lot in steps[-1].moments])
