"""What frames tell: the pairs of a standing and a number of orders taken that can be true, by all that was heard."""

from farword.errors import TooLarge
from farword.machine import Coming
from farword.steps import ascending_key, first_standing, lots_of, step_of

MOST_PAIRS = 1000


def may_take(sent, count, tick):
    """The list of what can be taken in the tick, if so many orders were taken ahead: None, and the next order."""
    # A number of orders that none can have taken has no next one.
    if not 0 <= count < len(sent):
        return [None]
    order, since = sent[count]
    return [None, order] if since <= tick else [None]


def fits_frames(standing, count, tick, frames):
    """Whether the pair has what all frames of this tick tell."""
    told = (tick, count, standing[0], standing[1])
    return all([frame == told for frame in frames if frame[0] == tick])


def frames_by_tick(frames):
    """The dict from the ticks of frames to the lists of their frames."""
    by_tick = {}
    for frame in frames:
        by_tick.setdefault(frame[0], []).append(frame)
    return by_tick


def count_behind(count, order):
    """How many orders were taken behind a tick that takes the order, or none."""
    return count if order is None else count + 1


def ascending_pairs(pairs):
    """The list of the pairs, ascending."""
    by_key = {(*ascending_key(standing), count): (standing, count) for standing, count in pairs}
    return [by_key[key] for key in sorted(by_key)]


def coming_of(book, alarms):
    """What can come of the standings of the book, if these alarms may come."""
    return Coming(book, lots_of(alarms))


def pairs_behind(coming, sent, pair, tick):
    """The list of all pairs behind the tick from a pair, each with an input that leads to it."""
    standing, count = pair
    pairs = []
    for order in may_take(sent, count, tick):
        for behind, alarms in coming.behind(standing, order).items():
            pairs.append(((behind, count_behind(count, order)), (alarms, order)))
    return pairs


def first_pairs(book, frames):
    """The dict with the first pair alone, or with none if it does not fit the frames."""
    start = first_standing(book)
    return {(start, 0): None} if fits_frames(start, 0, 0, frames) else {}


def next_pairs(coming, sent, last, tick, frames):
    """The dict from what is known at the tick to the pair and the input ahead of it, by what was known ahead.

    The frames are those of the tick. Raises TooLarge.
    """
    here = {}
    for pair in last:
        for behind, told in pairs_behind(coming, sent, pair, tick):
            if behind not in here and fits_frames(behind[0], behind[1], tick, frames):
                here[behind] = (pair, told)
        if len(here) > MOST_PAIRS:
            raise TooLarge(f"more than {MOST_PAIRS} pairs can be true")
    return here


def pairs_by_tick(book, coming, sent, frames, now):
    """The list of the dicts of what is known at each tick, by the frames up to it. Raises TooLarge."""
    by_tick = frames_by_tick(frames)
    here = [first_pairs(book, frames)]
    for tick in range(1, now + 1):
        here.append(next_pairs(coming, sent, here[-1], tick, by_tick.get(tick, [])))
    return here


def sets_known(book, sent, alarms, frames, now):
    """The list of the lists of what is known at each tick, by the frames up to it. Raises TooLarge."""
    return [ascending_pairs(pairs) for pairs in pairs_by_tick(book, coming_of(book, alarms), sent, frames, now)]


def known(book, sent, alarms, frames, now):
    """The list of what is known now. Raises TooLarge."""
    return sets_known(book, sent, alarms, frames, now)[-1]


def leads_into(coming, sent, pair, tick, pairs):
    """Whether the tick can lead from the pair to one of the dict."""
    return any([behind in pairs for behind, _ in pairs_behind(coming, sent, pair, tick)])


def known_then(book, sent, alarms, frames, now, then):
    """The list of what is known now of an earlier tick. Raises TooLarge."""
    coming = coming_of(book, alarms)
    here = pairs_by_tick(book, coming, sent, frames, now)
    pairs = here[now]
    for tick in range(now, then, -1):
        pairs = {pair: True for pair in here[tick - 1] if leads_into(coming, sent, pair, tick, pairs)}
    return ascending_pairs(pairs)


def fitting_history(book, sent, alarms, frames, now, pair):
    """A history that fits the frames and leads to the pair, or None if there is none. Raises TooLarge."""
    here = pairs_by_tick(book, coming_of(book, alarms), sent, frames, now)
    if pair not in here[now]:
        return None
    inputs = []
    for tick in range(now, 0, -1):
        pair, told = here[tick][pair]
        inputs.append(told)
    return inputs[::-1]


def is_fitting(book, sent, alarms, frames, history):
    """Whether the list of inputs is a history that fits the frames up to its last tick."""
    standing = first_standing(book)
    count = 0
    if not fits_frames(standing, count, 0, frames):
        return False
    for tick, (raised, order) in enumerate(history, start=1):
        if not all([name in alarms for name in raised]) or order not in may_take(sent, count, tick):
            return False
        standing = step_of(book, standing, raised, order).standing
        count = count_behind(count, order)
        if not fits_frames(standing, count, tick, frames):
            return False
    return True


def leads_on(coming, sent, here, tick, frames, behind):
    """Whether all pairs behind the tick from the pairs of a list that fit the frames are in the next list."""
    listed = set(behind)
    for pair in here:
        for came, _ in pairs_behind(coming, sent, pair, tick):
            if came not in listed and fits_frames(came[0], came[1], tick, frames):
                return False
    return True


def check_sets(book, sent, alarms, frames, sets):
    """Whether the list of one or more lists of pairs holds."""
    coming = coming_of(book, alarms)
    by_tick = frames_by_tick(frames)
    if not all([pair in sets[0] for pair in first_pairs(book, frames)]):
        return False
    for tick in range(1, len(sets)):
        if not leads_on(coming, sent, sets[tick - 1], tick, by_tick.get(tick, []), sets[tick]):
            return False
    return True


def sure_holds(book, pairs):
    """The lots of the holds that are surely on, surely off, and neither, by one or more pairs."""
    lots = [standing[1] for standing, _ in pairs]
    surely_on = [hold for hold in book.holds if all([hold in lot for lot in lots])]
    surely_off = [hold for hold in book.holds if not any([hold in lot for lot in lots])]
    unsure = [hold for hold in book.holds if hold not in surely_on and hold not in surely_off]
    return (tuple(surely_on), tuple(surely_off), tuple(unsure))


def modes_in(pairs):
    """The list of the modes in the pairs, ascending."""
    return sorted(set([standing[0] for standing, _ in pairs]))
