"""Rest: how long it takes until nothing changes if nothing is heard, and ranks that show it."""

from farword.closed import found_numbers, is_closed, machine_of, numbers_of
from farword.steps import entered, is_standing, step_of


def rests(book, standing):
    """Whether no row runs in the standing, and with nothing heard its mode and its holds never change."""
    mode, lot, row, _, _, _ = standing
    if row is not None:
        return False
    # Without an order it is quiet some day, and then the safe mode is entered.
    return book.quiet is None or (mode == book.safe and entered(book, mode, lot) == lot)


def behind_nothing(book, standing):
    """The standing behind a tick with nothing heard."""
    return step_of(book, standing, (), None).standing


def rest_time(book, standing):
    """How many ticks with nothing heard lead to the first standing that rests."""
    ticks = 0
    while not rests(book, standing):
        standing = behind_nothing(book, standing)
        ticks = ticks + 1
    return ticks


def times_of(book, machine, standings):
    """The dict from the numbers of standings to their rest times; the standings are told by a dict from the numbers.

    Behind each tick from one of them comes another one.
    """
    times = {}
    for first in list(standings):
        number = first
        way = []
        while number not in times and not rests(book, standings[number]):
            way.append(number)
            number = machine.waited(number)[0]
        time = times.setdefault(number, 0)
        for ahead in way[::-1]:
            time = time + 1
            times[ahead] = time
    return times


def ranks_of(book):
    """The dict from all reached standings to their rest times. Raises TooLarge."""
    machine = machine_of(book)
    standings = {number: machine.standing_of(number) for number in list(found_numbers(machine))}
    times = times_of(book, machine, standings)
    return {standing: times[number] for number, standing in standings.items()}


def rest_bound(book):
    """The greatest rest time, and the first reached standing that has it. Raises TooLarge."""
    ranks = ranks_of(book)
    bound = max(ranks.values())
    slowest = [standing for standing, rank in ranks.items() if rank == bound]
    return (bound, slowest[0])


def falls(book, ranks, standing):
    """Whether the standing rests, or has a greater number than the next one with nothing heard."""
    return rests(book, standing) or ranks[standing] > ranks[behind_nothing(book, standing)]


def check_ranks(book, ranks, bound):
    """Whether the dict from tuples to integers has standings of the book alone as keys, and shows the bound."""
    standings = list(ranks)
    if not all([is_standing(book, value) for value in standings]):
        return False
    machine = machine_of(book)
    if not is_closed(machine, numbers_of(machine, standings)):
        return False
    if not all([0 <= rank <= bound for rank in ranks.values()]):
        return False
    return all([falls(book, ranks, standing) for standing in standings])
