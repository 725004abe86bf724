"""Points [41] and [42]: the ground."""

import itertools
import random
import unittest

from farword.errors import FarError, InvalidInput
from farword.ground import Ground
from tests.plain_world import PlainGround
from tests.samples import PLAIN, SMALLEST, made

ORDERS = [("do", "go"), ("do", "off"), ("stop",), ("run", "plan"), ("do", "warm"), ("run", "again")]
WRONG = [None, ("do", "hop"), ("run", "go"), (), ("do",), ("wait",), ("stop", "go"), ("do", "go", "go")]


def ground_with(many, window=8):
    """A ground that was asked for so many orders, and has sent nothing."""
    ground = Ground(made(PLAIN), window)
    for at in range(many):
        ground.ask(ORDERS[at % len(ORDERS)])
    return ground


def numbers(letters):
    return [number for _, number, _ in letters]


def told_by(ground):
    return (ground.known(), ground.newest(), ground.asked(), ground.sent(), ground.frames())


class AskTest(unittest.TestCase):
    def test_at_first(self):
        ground = Ground(made(PLAIN), 3)
        self.assertEqual(told_by(ground), (0, None, [], [], []))
        self.assertEqual(ground.send(), [])

    def test_numbers_of_orders(self):
        ground = Ground(made(PLAIN), 1)
        self.assertEqual([ground.ask(order) for order in ORDERS * 3], list(range(18)))
        self.assertEqual(ground.asked(), ORDERS * 3)
        self.assertEqual(ground.sent(), [])

    def test_wrong_orders(self):
        ground = ground_with(2)
        before = told_by(ground)
        for order in WRONG:
            with self.assertRaises(InvalidInput) as caught:
                ground.ask(order)
            self.assertIsInstance(caught.exception, FarError)
            self.assertEqual(told_by(ground), before)
        self.assertEqual(ground.ask(("stop",)), 2)
        with self.assertRaises(InvalidInput):
            Ground(made(SMALLEST), 1).ask(("do", "go"))

    def test_lists_are_new(self):
        ground = ground_with(2)
        ground.send().clear()
        ground.hear((3, 1, "safe", ()))
        before = told_by(ground)
        for made_anew in (ground.asked(), ground.sent(), ground.frames(), ground.send()):
            made_anew.clear()
        self.assertEqual(told_by(ground), before)
        self.assertEqual(len(before[2]), 2)


class SendTest(unittest.TestCase):
    def test_windows(self):
        for window in range(1, 9):
            ground = ground_with(20, window)
            letters = ground.send()
            self.assertEqual(letters, [("order", at, ORDERS[at % 6]) for at in range(window)])
            self.assertEqual(ground.sent(), [(ORDERS[at % 6], 1) for at in range(window)])

    def test_sending_twice(self):
        ground = ground_with(5, 3)
        self.assertEqual(ground.send(), ground.send())
        self.assertEqual(len(ground.sent()), 3)

    def test_fewer_orders_than_the_window(self):
        ground = ground_with(2, 8)
        self.assertEqual(numbers(ground.send()), [0, 1])
        ground.ask(("stop",))
        self.assertEqual(numbers(ground.send()), [0, 1, 2])
        self.assertEqual(len(ground.sent()), 3)

    def test_behind_frames(self):
        ground = ground_with(9, 3)
        ground.send()
        self.assertIs(ground.hear((4, 2, "safe", ())), True)
        self.assertEqual(numbers(ground.send()), [2, 3, 4])
        self.assertEqual([since for _, since in ground.sent()], [1, 1, 1, 5, 5])
        # A frame of the same count, but a later tick, says more for what is sent for the first time.
        ground.hear((7, 2, "safe", ()))
        self.assertEqual(numbers(ground.send()), [2, 3, 4])
        self.assertIs(ground.hear((10, 5, "safe", ())), True)
        self.assertEqual(numbers(ground.send()), [5, 6, 7])
        self.assertEqual([since for _, since in ground.sent()], [1, 1, 1, 5, 5, 11, 11, 11])

    def test_all_are_known(self):
        ground = ground_with(2, 3)
        ground.send()
        ground.hear((2, 2, "safe", ()))
        self.assertEqual((ground.send(), ground.known()), ([], 2))

    def test_since_by_a_frame_of_no_orders(self):
        ground = ground_with(1, 1)
        ground.hear((0, 0, "safe", ()))
        ground.send()
        self.assertEqual(ground.sent(), [(("do", "go"), 1)])
        ground = ground_with(1, 1)
        ground.hear((6, 0, "safe", ()))
        ground.hear((2, 0, "work", ("cam",)))
        ground.send()
        self.assertEqual(ground.sent(), [(("do", "go"), 7)])

    def test_since_stays(self):
        ground = ground_with(1, 1)
        ground.send()
        ground.hear((6, 0, "safe", ()))
        ground.send()
        self.assertEqual(ground.sent(), [(("do", "go"), 1)])


class CanBeTest(unittest.TestCase):
    def setUp(self):
        self.ground = ground_with(12, 4)
        self.ground.send()

    def check(self, frame, answer):
        before = told_by(self.ground)
        self.assertIs(self.ground.can_be(frame), answer)
        self.assertEqual(told_by(self.ground), before)
        if not answer:
            self.assertIs(self.ground.hear(frame), False)
            self.assertEqual(told_by(self.ground), before)

    def test_modes_and_lots(self):
        for mode in ("safe", "work", "idle"):
            for lot in ((), ("cam",), ("cam", "heat", "radio"), ("heat", "radio")):
                self.check((0, 0, mode, lot), True)
        for mode, lot in (("nap", ()), ("", ()), ("go", ()), ("safe", ("hot",)), ("safe", ("heat", "cam")),
                          ("safe", ("cam", "cam")), ("safe", ("safe",)), ("safe", ("cam", "hot")), ("safe", ("",))):
            self.check((5, 0, mode, lot), False)

    def test_counts_and_ticks(self):
        for tick, count in itertools.product(range(6), range(7)):
            self.check((tick, count, "safe", ()), count <= tick and count <= 4)

    def test_the_since_of_the_last_order(self):
        self.ground.hear((3, 1, "safe", ()))
        self.ground.send()
        self.assertEqual([since for _, since in self.ground.sent()], [1, 1, 1, 1, 4])
        self.ground.hear((20, 4, "safe", ()))
        self.ground.send()
        self.assertEqual([since for _, since in self.ground.sent()], [1, 1, 1, 1, 4, 21, 21, 21])
        self.check((25, 5, "safe", ()), True)
        self.check((21, 5, "safe", ()), True)
        self.check((22, 6, "safe", ()), True)
        self.check((21, 6, "safe", ()), False)

    def test_a_count_whose_order_was_sent_later(self):
        ground = ground_with(3, 1)
        ground.hear((4, 0, "safe", ()))
        ground.send()
        self.assertEqual([since for _, since in ground.sent()], [5])
        self.assertEqual([ground.can_be((tick, 1, "safe", ())) for tick in (1, 3, 4, 5, 6)],
                         [False, False, False, True, True])
        self.assertEqual([ground.can_be((tick, 0, "safe", ())) for tick in (1, 3, 4, 5, 6)], [True] * 5)

    def test_counts_of_other_frames(self):
        self.ground.hear((6, 2, "safe", ()))
        for tick, count, answer in ((7, 1, False), (7, 2, True), (7, 3, True), (7, 4, False), (8, 4, True),
                                    (50, 2, True), (50, 1, False), (5, 3, False), (5, 2, True), (5, 1, True),
                                    (5, 0, False), (4, 0, True), (4, 2, True), (1, 0, True), (2, 2, True)):
            with self.subTest(tick=tick, count=count):
                self.check((tick, count, "work", ("cam",)), answer)

    def test_frames_of_one_tick(self):
        self.ground.hear((6, 2, "safe", ("cam",)))
        self.check((6, 2, "safe", ("cam",)), True)
        for frame in ((6, 2, "work", ("cam",)), (6, 2, "safe", ()), (6, 1, "safe", ("cam",)), (6, 3, "safe", ("cam",))):
            self.check(frame, False)

    def test_between_two_frames(self):
        self.ground.hear((4, 1, "safe", ()))
        self.ground.hear((9, 3, "safe", ()))
        for tick in range(4, 10):
            for count in range(5):
                answer = max(1, 3 - (9 - tick)) <= count <= min(3, 1 + tick - 4)
                self.check((tick, count, "safe", ()), answer)

    def test_each_frame_that_was_heard_counts(self):
        # The frame next to this one, in each direction, has to be asked, in whatever order they were heard.
        for order in itertools.permutations([(2, 0), (5, 2), (8, 2), (12, 4)]):
            ground = ground_with(12, 8)
            ground.send()
            for tick, count in order:
                self.assertIs(ground.hear((tick, count, "safe", ())), True)
            self.assertEqual(ground.frames(), [(tick, count, "safe", ()) for tick, count in
                                               ((2, 0), (5, 2), (8, 2), (12, 4))])
            for tick, count, answer in ((1, 1, False), (3, 1, True), (4, 0, False), (6, 2, True), (7, 3, False),
                                        (10, 3, True), (9, 1, False), (13, 6, False), (13, 5, True), (0, 0, True)):
                self.assertIs(ground.can_be((tick, count, "idle", ())), answer)


class HearTest(unittest.TestCase):
    def test_what_is_known_and_newest(self):
        ground = ground_with(4, 4)
        ground.send()
        self.assertIs(ground.hear((5, 2, "safe", ("cam",))), True)
        self.assertEqual((ground.known(), ground.newest()), (2, (5, 2, "safe", ("cam",))))
        self.assertIs(ground.hear((3, 1, "work", ())), True)
        self.assertEqual((ground.known(), ground.newest()), (2, (5, 2, "safe", ("cam",))))
        self.assertIs(ground.hear((7, 2, "idle", ())), True)
        self.assertEqual((ground.known(), ground.newest()), (2, (7, 2, "idle", ())))
        self.assertEqual([frame[0] for frame in ground.frames()], [3, 5, 7])

    def test_frames_heard_twice(self):
        ground = ground_with(4, 4)
        ground.send()
        frames = [(3, 1, "work", ()), (5, 2, "safe", ("cam",)), (9, 4, "safe", ())]
        for frame in [frames[1], frames[1], frames[0], frames[2], frames[0], frames[1], frames[2]]:
            self.assertIs(ground.hear(frame), True)
        self.assertEqual(ground.frames(), frames)

    def test_what_is_known_never_falls(self):
        for seed in range(40):
            chance = random.Random(seed)
            ground, model = Ground(made(PLAIN), 1 + seed % 8), PlainGround(PLAIN, 1 + seed % 8)
            known = 0
            for _ in range(150):
                self.deed(chance, ground, model)
                self.assertGreaterEqual(ground.known(), known)
                known = ground.known()
                self.assertEqual(told_by(ground), (model.known(), model.newest(), model.asked, model.sent(),
                                                   model.heard))

    def deed(self, chance, ground, model):
        deed = chance.random()
        if deed < 0.3:
            order = chance.choice(ORDERS)
            self.assertEqual(ground.ask(order), len(model.asked))
            model.asked.append(order)
        elif deed < 0.5:
            self.assertEqual(ground.send(), model.send())
        else:
            frame = (chance.randint(0, 30), min(chance.randint(0, 25), chance.randint(0, 25)),
                     chance.choice(["safe", "work", "idle", "nap"]),
                     chance.choice([(), (), (), ("cam",), ("heat", "radio"), ("radio", "heat"), ("hot",)]))
            answer = model.can_be(frame)
            self.assertIs(ground.can_be(frame), answer)
            self.assertIs(ground.hear(frame), model.hear(frame))


if __name__ == "__main__":
    unittest.main()
