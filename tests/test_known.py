"""Points [47] to [52]: what frames tell."""

import copy
import random
import unittest

from farword.errors import FarError, TooLarge
from farword.known import (check_sets, fits_frames, fitting_history, is_fitting, known, known_then, may_take, modes_in,
                           sets_known, sure_holds)
from tests.plain import Plain, parts_by_chance
from tests.samples import PLAIN, SMALLEST, made

GO, OFF, WARM, STOP, RUN = ("do", "go"), ("do", "off"), ("do", "warm"), ("stop",), ("run", "plan")
SENT = [(GO, 1), (STOP, 2), (WARM, 2), (OFF, 5)]
FIRST = ("safe", ("radio",), None, 0, 0, 0)


def ascending_by_hand(pairs):
    """Pairs in order, straight by points [20] and [52]."""
    def key(pair):
        mode, lot, row, place, left, silence = pair[0]
        return (mode, lot, row or "", place, left, silence, pair[1])
    return sorted(set(pairs), key=key)


def histories(plain, sent, alarms, ticks):
    """All histories of so many ticks, and the pairs at each of their ticks, straight by points [47] and [49]."""
    rows = [([], [(plain.first(), 0)])]
    for tick in range(1, ticks + 1):
        longer = []
        for inputs, pairs in rows:
            standing, count = pairs[-1]
            for lot, order in plain.inputs():
                due = count < len(sent) and sent[count][1] <= tick and order == sent[count][0]
                if set(lot) <= set(alarms) and (order is None or due):
                    behind = (plain.tick(standing, lot, order)[0], count + (order is not None))
                    longer.append(([*inputs, (lot, order)], [*pairs, behind]))
        rows = longer
    return rows


def fits(pairs, frames):
    """Whether pairs, one for each tick from 0 on, fit all frames up to the last one of these ticks."""
    return all((pairs[tick][1], *pairs[tick][0][:2]) == (count, mode, on) for tick, count, mode, on in frames
               if tick < len(pairs))


def known_by_hand(plain, sent, alarms, frames, now, then):
    """What is known now of a tick, of all histories of `now` ticks."""
    return ascending_by_hand([pairs[then] for _, pairs in histories(plain, sent, alarms, now) if fits(pairs, frames)])


def drawn_frames(chance, pairs, many):
    """Frames of some of the ticks of pairs, one for each tick; in any order, perhaps twice."""
    frames = [(tick, pair[1], *pair[0][:2]) for tick, pair in enumerate(pairs)]
    return [chance.choice(frames) for _ in range(many)]


def some_cases(many, ticks=3):
    """Books with orders that were sent, alarms that may come, a history by chance and frames of it."""
    for seed in range(many):
        chance = random.Random(seed)
        parts = parts_by_chance(seed, holds=3, modes=3, commands=2, alarms=2, rows=2, quiet=3)
        plain = Plain(parts)
        orders = [order for _, order in plain.inputs() if order is not None]
        ticks_of_orders = sorted(chance.randint(1, ticks + 1) for _ in range(chance.randint(0, 3)))
        sent = [(chance.choice(orders), since) for since in ticks_of_orders]
        alarms = tuple(sorted(part[0] for part in parts["alarms"] if chance.random() < 0.6))
        inputs, pairs = chance.choice(histories(plain, sent, alarms, ticks))
        yield plain, made(parts), sent, alarms, inputs, pairs, drawn_frames(chance, pairs, chance.randint(0, 3))


class TakeTest(unittest.TestCase):
    def test_the_next_order(self):
        for count, tick, expected in ((0, 1, [None, GO]), (0, 9, [None, GO]), (1, 1, [None]), (1, 2, [None, STOP]),
                                      (2, 2, [None, WARM]), (3, 4, [None]), (3, 5, [None, OFF]), (3, 6, [None, OFF]),
                                      (4, 9, [None]), (5, 9, [None])):
            with self.subTest(count=count, tick=tick):
                self.assertEqual(may_take(SENT, count, tick), expected)

    def test_no_order_is_sent(self):
        for tick in (1, 2, 100):
            self.assertEqual(may_take([], 0, tick), [None])

    def test_lists_are_new(self):
        before = copy.deepcopy(SENT)
        may_take(SENT, 0, 1).clear()
        self.assertEqual(may_take(SENT, 0, 1), [None, GO])
        self.assertEqual(SENT, before)


class FitsTest(unittest.TestCase):
    def test_frames_of_the_tick(self):
        standing = ("work", ("cam", "radio"), None, 0, 0, 2)
        good = (4, 2, "work", ("cam", "radio"))
        for frames, answer in (([], True), ([good], True), ([good, good], True), ([(3, 9, "safe", ()), good], True),
                               ([(3, 9, "safe", ())], True), ([(5, 9, "safe", ())], True),
                               ([(4, 1, "work", ("cam", "radio"))], False), ([(4, 2, "safe", ("cam", "radio"))], False),
                               ([(4, 2, "work", ("cam",))], False), ([(4, 2, "work", ())], False),
                               ([(4, 2, "work", ("cam", "heat", "radio"))], False),
                               ([good, (4, 3, "work", ("cam", "radio"))], False),
                               ([(4, 2, "idle", ("cam", "radio")), good], False)):
            with self.subTest(frames=frames):
                self.assertIs(fits_frames(standing, 2, 4, frames), answer)


class KnownTest(unittest.TestCase):
    def test_all_histories_of_few_ticks(self):
        empty = 0
        for plain, book, sent, alarms, _, pairs, frames in some_cases(60):
            given = copy.deepcopy((sent, alarms, frames))
            sets = sets_known(book, sent, alarms, frames, 3)
            self.assertEqual(len(sets), 4)
            for tick in range(4):
                upto = [frame for frame in frames if frame[0] <= tick]
                self.assertEqual(sets[tick], known_by_hand(plain, sent, alarms, upto, tick, tick))
                self.assertEqual(known(book, sent, alarms, upto, tick), sets[tick])
                self.assertIn(pairs[tick], sets[tick])
            self.assertEqual((sent, alarms, frames), given)
            empty += len(sets[3]) > 1
        self.assertGreater(empty, 15)

    def test_frames_that_may_be_wrong(self):
        told = {True: 0, False: 0}
        for plain, book, sent, alarms, _, pairs, frames in some_cases(60):
            chance = random.Random(len(sent))
            tick = chance.randint(0, 3)
            wrong = (tick, chance.randint(0, 2), chance.choice(list(plain.modes)), pairs[tick][0][1])
            frames = [*frames, wrong]
            expected = [known_by_hand(plain, sent, alarms, [frame for frame in frames if frame[0] <= at], at, at)
                        for at in range(4)]
            self.assertEqual(sets_known(book, sent, alarms, frames, 3), expected)
            told[expected[3] == []] += 1
            # An empty set stays so.
            for here, behind in zip(expected, expected[1:]):
                self.assertTrue(here != [] or behind == [])
        self.assertGreater(min(told.values()), 8)

    def test_without_frames_and_orders(self):
        book = made(PLAIN)
        self.assertEqual(known(book, [], (), [], 0), [(FIRST, 0)])
        self.assertEqual(known(book, [], (), [], 2), [(("safe", ("radio",), None, 0, 0, 2), 0)])
        self.assertEqual(known(book, SENT, (), [], 1), [(FIRST[:5] + (1,), 0), (("work", ("cam", "radio"), None, 0, 0,
                                                                                0), 1)])

    def test_a_since(self):
        book = made(PLAIN)
        for since in (1, 2, 3, 4, 5):
            counts = [sorted({count for _, count in pairs}) for pairs in sets_known(book, [(GO, since)], (), [], 4)]
            self.assertEqual(counts, [[0] if tick < since else [0, 1] for tick in range(5)])

    def test_a_later_frame_shows_that_frames_are_wrong(self):
        book = made(PLAIN)
        frames = [(1, 0, "safe", ("radio",)), (3, 0, "work", ("cam", "radio"))]
        sets = sets_known(book, [(GO, 1)], (), frames, 4)
        self.assertEqual([len(pairs) for pairs in sets], [1, 1, 2, 0, 0])
        self.assertEqual(known(book, [(GO, 1)], (), frames, 4), [])
        self.assertEqual(known(book, [], (), [(0, 0, "safe", ())], 0), [])
        self.assertEqual(sets_known(book, [], (), [(0, 1, "safe", ("radio",))], 2), [[], [], []])

    def test_two_frames_of_one_tick(self):
        book = made(PLAIN)
        one, other = (1, 0, "safe", ("radio",)), (1, 1, "work", ("cam", "radio"))
        self.assertEqual([len(known(book, [(GO, 1)], (), frames, 1)) for frames in
                          ([one], [other], [one, one], [one, other], [other, one])], [1, 1, 1, 0, 0])

    def test_an_order_of_frames_does_not_matter(self):
        for _, book, sent, alarms, _, _, frames in some_cases(20):
            expected = sets_known(book, sent, alarms, frames, 3)
            self.assertEqual(sets_known(book, sent, alarms, frames[::-1] * 2, 3), expected)

    def test_lists_are_new(self):
        book = made(PLAIN)
        for pairs in sets_known(book, SENT, ("cold",), [], 3):
            pairs.clear()
        known(book, SENT, ("cold",), [], 3).clear()
        known_then(book, SENT, ("cold",), [], 3, 1).clear()
        self.assertGreater(len(known(book, SENT, ("cold",), [], 3)), 3)
        self.assertEqual(known_then(book, SENT, (), [], 0, 0), [(FIRST, 0)])


class ThenTest(unittest.TestCase):
    def test_all_histories_of_few_ticks(self):
        less = 0
        for plain, book, sent, alarms, _, pairs, frames in some_cases(60):
            given = copy.deepcopy((sent, alarms, frames))
            sets = sets_known(book, sent, alarms, frames, 3)
            for then in range(4):
                found = known_then(book, sent, alarms, frames, 3, then)
                self.assertEqual(found, known_by_hand(plain, sent, alarms, frames, 3, then))
                self.assertIn(pairs[then], found)
                less += len(found) < len(sets[then])
            self.assertEqual(known_then(book, sent, alarms, frames, 3, 3), sets[3])
            self.assertEqual((sent, alarms, frames), given)
        self.assertGreater(less, 5)

    def test_a_later_frame_tells_of_an_earlier_tick(self):
        book = made(PLAIN)
        frames = [(3, 0, "safe", ("radio",))]
        self.assertEqual(len(known(book, [(GO, 1)], (), [], 2)), 3)
        self.assertEqual(known_then(book, [(GO, 1)], (), frames, 3, 2), [(("safe", ("radio",), None, 0, 0, 2), 0)])
        self.assertEqual(known_then(book, [(GO, 1)], (), frames, 3, 0), [(FIRST, 0)])

    def test_frames_that_cannot_be_right(self):
        book = made(PLAIN)
        frames = [(1, 0, "safe", ("radio",)), (3, 0, "work", ("cam", "radio"))]
        for then in range(5):
            self.assertEqual(known_then(book, [(GO, 1)], (), frames, 4, then), [])


class HistoryTest(unittest.TestCase):
    def test_pairs_and_their_histories(self):
        for plain, book, sent, alarms, inputs, pairs, frames in some_cases(40):
            self.assertIs(is_fitting(book, sent, alarms, frames, inputs), True)
            for pair in known(book, sent, alarms, frames, 3):
                history = fitting_history(book, sent, alarms, frames, 3, pair)
                self.check(plain, sent, alarms, frames, history, pair)
                self.assertIs(is_fitting(book, sent, alarms, frames, history), True)

    def check(self, plain, sent, alarms, frames, history, pair):
        """The history is one, fits the frames and leads to the pair."""
        pairs = [(plain.first(), 0)]
        for tick, (lot, order) in enumerate(history, start=1):
            standing, count = pairs[-1]
            self.assertLessEqual(set(lot), set(alarms))
            if order is not None:
                self.assertEqual(order, sent[count][0])
                self.assertLessEqual(sent[count][1], tick)
            pairs.append((plain.tick(standing, lot, order)[0], count + (order is not None)))
        self.assertEqual((len(history), pairs[-1]), (3, pair))
        self.assertIs(fits(pairs, frames), True)

    def test_pairs_that_none_leads_to(self):
        for plain, book, sent, alarms, _, _, frames in some_cases(12):
            found = known(book, sent, alarms, frames, 3)
            for standing in plain.standings()[::7]:
                for count in range(4):
                    if (standing, count) not in found:
                        self.assertIsNone(fitting_history(book, sent, alarms, frames, 3, (standing, count)))

    def test_no_ticks(self):
        book = made(PLAIN)
        self.assertEqual(fitting_history(book, SENT, (), [], 0, (FIRST, 0)), [])
        self.assertIsNone(fitting_history(book, SENT, (), [], 0, (FIRST, 1)))
        self.assertIsNone(fitting_history(book, SENT, (), [(0, 0, "work", ("radio",))], 0, (FIRST, 0)))
        self.assertIs(is_fitting(book, SENT, (), [], []), True)
        self.assertIs(is_fitting(book, SENT, (), [(0, 0, "safe", ("radio",))], []), True)
        self.assertIs(is_fitting(book, SENT, (), [(0, 0, "safe", ())], []), False)

    def test_what_fits(self):
        book = made(PLAIN)
        cold, nothing = (("cold",), None), ((), None)
        for alarms, frames, history, answer in (
                (("cold",), [], [cold, ((), GO)], True), ((), [], [cold], False),
                (("cold",), [], [(("cold", "low"), None)], False),
                (("cold", "low"), [], [(("cold", "low"), None)], True),
                ((), [], [((), STOP)], False), ((), [], [((), GO), ((), STOP)], True),
                ((), [], [((), GO), ((), GO)], False), ((), [], [((), GO), nothing, ((), STOP)], True),
                ((), [(2, 1, "work", ("cam", "radio"))], [((), GO), nothing], True),
                ((), [(2, 1, "work", ("cam", "radio"))], [nothing, ((), GO)], True),
                ((), [(2, 1, "work", ("cam", "radio"))], [nothing, nothing], False),
                # A frame of a later tick says nothing yet.
                ((), [(2, 1, "work", ("cam", "radio"))], [nothing], True),
                ((), [(1, 1, "work", ("cam", "radio")), (2, 0, "idle", ())], [((), GO)], True),
                ((), [(1, 1, "work", ("cam",))], [((), GO)], False), ((), [(1, 0, "work", ("cam", "radio"))],
                                                                     [((), GO)], False)):
            with self.subTest(frames=frames, history=history):
                self.assertIs(is_fitting(book, SENT, alarms, frames, history), answer)

    def test_a_since(self):
        book = made(PLAIN)
        for since in (1, 2, 3, 4):
            for tick in (1, 2, 3):
                history = [((), GO if at == tick else None) for at in (1, 2, 3)]
                self.assertIs(is_fitting(book, [(GO, since)], (), [], history), since <= tick)


class SetsTest(unittest.TestCase):
    def test_what_is_known_holds(self):
        for _, book, sent, alarms, _, _, frames in some_cases(40):
            sets = sets_known(book, sent, alarms, frames, 3)
            given = copy.deepcopy((sent, alarms, frames, sets))
            self.assertIs(check_sets(book, sent, alarms, frames, sets), True)
            self.assertEqual((sent, alarms, frames, sets), given)
            self.assertIs(check_sets(book, sent, alarms, frames, [pairs[::-1] * 2 for pairs in sets]), True)

    def test_a_pair_left_out_or_a_list_cleared(self):
        for plain, book, sent, alarms, _, _, frames in some_cases(25):
            sets = sets_known(book, sent, alarms, frames, 3)
            for tick in range(4):
                for at in range(len(sets[tick])):
                    changed = copy.deepcopy(sets)
                    del changed[tick][at]
                    self.assertIs(check_sets(book, sent, alarms, frames, changed), False)
                changed = copy.deepcopy(sets)
                changed[tick].clear()
                self.assertIs(check_sets(book, sent, alarms, frames, changed), False)

    def test_a_pair_put_in(self):
        told = {True: 0, False: 0}
        for seed, (plain, book, sent, alarms, _, _, frames) in enumerate(some_cases(25)):
            sets = sets_known(book, sent, alarms, frames, 3)
            chance = random.Random(seed)
            for tick in range(4):
                for _ in range(4):
                    pair = (chance.choice(plain.standings()), chance.randint(0, len(sent) + 1))
                    changed = copy.deepcopy(sets)
                    changed[tick].insert(0, pair)
                    answer = tick == 3 or all(behind in changed[tick + 1] for behind in
                                              self.behind(plain, sent, alarms, frames, pair, tick + 1))
                    self.assertIs(check_sets(book, sent, alarms, frames, changed), answer)
                    told[answer] += 1
        self.assertGreater(min(told.values()), 25)

    def behind(self, plain, sent, alarms, frames, pair, tick):
        """All pairs behind the tick from a pair that fit its frames."""
        standing, count = pair
        for lot, order in plain.inputs():
            due = order is None or count < len(sent) and sent[count][0] == order and sent[count][1] <= tick
            if due and set(lot) <= set(alarms):
                behind = (plain.tick(standing, lot, order)[0], count + (order is not None))
                if all((count_told, mode, on) == (behind[1], *behind[0][:2]) for told, count_told, mode, on in frames
                       if told == tick):
                    yield behind

    def test_shorter_and_longer(self):
        for plain, book, sent, alarms, _, _, frames in some_cases(20):
            sets = sets_known(book, sent, alarms, frames, 3)
            for many in (1, 2, 3):
                self.assertIs(check_sets(book, sent, alarms, frames, sets[:many]), True)
            self.assertIs(check_sets(book, sent, alarms, frames, [*sets, []]), False)
            later = sets[1:]
            answer = (plain.first(), 0) in later[0] and self.holds_by_hand(plain, sent, alarms, frames, later)
            self.assertIs(check_sets(book, sent, alarms, frames, later), answer)

    def holds_by_hand(self, plain, sent, alarms, frames, sets):
        """Whether each list has all that comes of the one ahead."""
        return all(behind in sets[tick + 1] for tick in range(len(sets) - 1) for pair in sets[tick]
                   for behind in self.behind(plain, sent, alarms, frames, pair, tick + 1))

    def test_the_first_list(self):
        book = made(PLAIN)
        self.assertIs(check_sets(book, [], (), [], [[(FIRST, 0)]]), True)
        self.assertIs(check_sets(book, [], (), [], [[]]), False)
        self.assertIs(check_sets(book, [], (), [], [[(FIRST, 1)]]), False)
        self.assertIs(check_sets(book, [], (), [], [[(FIRST[:5] + (1,), 0)]]), False)
        # The first pair does not fit the frame, so that nothing has to be in the lists.
        wrong = [(0, 0, "work", ("radio",))]
        self.assertIs(check_sets(book, [], (), wrong, [[]]), True)
        self.assertIs(check_sets(book, [], (), wrong, [[], [], []]), True)
        self.assertIs(check_sets(book, [], (), wrong, [[(FIRST, 0)], []]), False)

    def test_frames_behind_the_last_list(self):
        book = made(PLAIN)
        self.assertIs(check_sets(book, [], (), [(1, 0, "work", ())], [[(FIRST, 0)]]), True)
        self.assertIs(check_sets(book, [], (), [(1, 0, "work", ())], [[(FIRST, 0)], []]), True)
        self.assertIs(check_sets(book, [], (), [], [[(FIRST, 0)], []]), False)

    def test_a_pair_with_a_number_of_orders_that_none_can_have(self):
        book, next_one = made(SMALLEST), ("m", (), None, 0, 0, 0)
        for count in (-1, 3, 100):
            sets = [[(next_one, 0), (next_one, count)], [(next_one, 0), (next_one, 1), (next_one, count)]]
            self.assertIs(check_sets(book, [(STOP, 1)], (), [], sets), True)
            self.assertIs(check_sets(book, [(STOP, 1)], (), [], [sets[0], sets[1][:2]]), False)


class SureTest(unittest.TestCase):
    def test_holds(self):
        book = made(PLAIN)
        one, two, three = [("safe", lot, None, 0, 0, 0) for lot in (("cam", "radio"), ("radio",), ())]
        for standings, expected in (([one], (("cam", "radio"), ("heat",), ())),
                                    ([one, two], (("radio",), ("heat",), ("cam",))),
                                    ([three], ((), ("cam", "heat", "radio"), ())),
                                    ([one, two, three], ((), ("heat",), ("cam", "radio"))),
                                    ([one, three, one, one], ((), ("heat",), ("cam", "radio"))),
                                    ([one, one], (("cam", "radio"), ("heat",), ()))):
            pairs = [(standing, at) for at, standing in enumerate(standings)]
            self.assertEqual(sure_holds(book, pairs), expected)
            self.assertEqual(sure_holds(book, pairs[::-1] * 2), expected)

    def test_all_pairs(self):
        for plain, book, sent, alarms, _, _, frames in some_cases(25):
            for pairs in sets_known(book, sent, alarms, frames, 3):
                on, off, unsure = sure_holds(book, pairs)
                lots = [set(standing[1]) for standing, _ in pairs]
                self.assertEqual(set(on), set.intersection(*lots))
                self.assertEqual(set(off), set(book.holds) - set.union(*lots))
                self.assertEqual(sorted([*on, *off, *unsure]), book.holds)
                for lot in (on, off, unsure):
                    self.assertEqual(lot, tuple(sorted(lot)))

    def test_modes(self):
        pairs = [((mode, (), None, 0, 0, 0), count) for mode, count in (("work", 1), ("safe", 2), ("work", 3),
                                                                        ("idle", 0), ("safe", 2))]
        self.assertEqual(modes_in(pairs), ["idle", "safe", "work"])
        self.assertEqual(modes_in(pairs[:1]), ["work"])
        self.assertEqual(modes_in([]), [])


class LargeTest(unittest.TestCase):
    """Five modes and four holds, of which alarms turn one on each, and a silence: sets with many pairs."""

    def setUp(self):
        names = [f"m{k}" for k in range(5)]
        self.parts = {**SMALLEST, "holds": ["a", "b", "c", "d", "e"], "modes": [(name, (), ()) for name in names],
                      "commands": [(f"x{hold}", tuple(names), (hold,), (), None) for hold in "abc"],
                      "alarms": [("toa", ("a",), (), None), ("tob", ("b",), (), None), ("toc", ("c",), (), None),
                                 ("tod", ("d",), (), None)],
                      "rows": [("r", ((9, "xa"),) * 4), ("s", ((9, "xb"),) * 4)], "quiet": None}
        self.alarms = ("toa", "tob", "toc", "tod")

    def sizes(self, sent, frames, now):
        return [len(pairs) for pairs in sets_known(made(self.parts), sent, self.alarms, frames, now)]

    def first_too_large(self, sent, sizes):
        """The first tick at which there are more than 1000 pairs, by sets that are worked out plainly."""
        plain = Plain(self.parts)
        pairs = {(plain.first(), 0)}
        lots = [lot for lot, order in plain.inputs() if order is None]
        for tick in range(1, 200):
            behind = set()
            for standing, count in pairs:
                due = [None] + ([sent[count][0]] if count < len(sent) and sent[count][1] <= tick else [])
                for order in due:
                    behind |= {(plain.tick(standing, lot, order)[0], count + (order is not None)) for lot in lots}
            pairs = behind
            sizes.append(len(pairs))
            if len(pairs) > 1000:
                return tick
        return None

    def test_too_large(self):
        sent = [(("run", "r"), 1), (("run", "s"), 1)] * 6
        sizes = [1]
        tick = self.first_too_large(sent, sizes)
        self.assertEqual(self.sizes(sent, [], tick - 1), sizes[:-1])
        book, start = made(self.parts), Plain(self.parts).first()
        for ask in (sets_known, known, lambda *told: known_then(*told, 0),
                    lambda *told: fitting_history(*told, (start, 0))):
            for now in (tick, tick + 3):
                with self.assertRaises(TooLarge) as caught:
                    ask(book, sent, self.alarms, [], now)
                self.assertIsInstance(caught.exception, FarError)
        # A frame makes the set small again, where it comes in time.
        small = (tick, 0, "m0", ())
        self.assertEqual(self.sizes(sent, [small], tick)[-1], 1)
        late = (tick + 1, 0, "m0", ())
        with self.assertRaises(TooLarge):
            self.sizes(sent, [late], tick + 1)
        with self.assertRaises(TooLarge):
            known_then(book, sent, self.alarms, [late], tick + 1, 0)

    def test_just_a_thousand(self):
        # 125 orders of one book with 8 lots of holds: after 124 ticks there are 125 counts with 8 lots each.
        parts = {**SMALLEST, "holds": ["a", "b", "c"],
                 "alarms": [(f"to{hold}", (hold,), (), None) for hold in "abc"]}
        book, alarms = made(parts), ("toa", "tob", "toc")
        sent = [(STOP, 1)] * 125
        sets = sets_known(book, sent, alarms, [], 124)
        self.assertEqual([len(pairs) for pairs in sets], [1] + [8 * (tick + 1) for tick in range(1, 125)])
        self.assertEqual(len(known_then(book, sent, alarms, [], 124, 124)), 1000)
        self.assertEqual(sets[-1], ascending_by_hand(sets[-1]))
        with self.assertRaises(TooLarge):
            known(book, sent, alarms, [], 125)
        self.assertEqual(len(known(book, sent[:124], alarms, [], 200)), 1000)
        self.assertIs(check_sets(book, sent, alarms, [], sets), True)
    def test_just_one_more(self):
        # As above; but the last order turns all holds off, so that behind it there is one pair alone in its tick.
        parts = {**SMALLEST, "holds": ["a", "b", "c"], "commands": [("clear", ("m",), (), ("a", "b", "c"), None)],
                 "alarms": [(f"to{hold}", (hold,), (), None) for hold in "abc"]}
        told = (made(parts), [(STOP, 1)] * 124 + [(("do", "clear"), 1)], ("toa", "tob", "toc"))
        self.assertEqual(len(known(*told, [], 124)), 1000)
        with self.assertRaises(TooLarge):
            known(*told, [], 125)
        self.assertEqual(len(known(*told, [(125, 125, "m", ())], 125)), 1)
        self.assertEqual(len(known(*told, [(125, 0, "m", ())], 125)), 1)

    def test_sets_that_hold_may_be_larger(self):
        parts = {**SMALLEST, "holds": ["a", "b", "c"],
                 "alarms": [(f"to{hold}", (hold,), (), None) for hold in "abc"]}
        book, alarms, sent = made(parts), ("toa", "tob", "toc"), [(STOP, 1)] * 30
        sets = sets_known(book, sent, alarms, [], 30)
        others = [(standing, 200 + at) for at in range(100) for standing in Plain(parts).standings()]
        self.assertIs(check_sets(book, sent, alarms, [], [[*pairs, *others] for pairs in sets]), True)


if __name__ == "__main__":
    unittest.main()
