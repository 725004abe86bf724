"""What is promised over the whole program: points [1] to [5], and what one part says of another."""

import importlib
import inspect
import random
import unittest

from farword import errors
from farword.closed import check_table, reached, verdict
from farword.craft import Craft
from farword.desk import Desk
from farword.errors import FarError, TooLarge
from farword.known import check_sets, fitting_history, is_fitting, known, known_then, sets_known, sure_holds
from farword.letters import format_letter, read_letter
from farword.link import World
from farword.notation import format_book, format_inputs, parse_book, parse_inputs
from farword.plans import best_row, comes_of
from farword.report import history_table, standing_line
from farword.rests import check_ranks, ranks_of, rest_bound
from farword.session import Session
from farword.steps import run_of
from tests.plain import Plain, parts_by_chance
from tests.samples import PLAIN, SMALLEST, made, parts_of

FILES = ["errors", "books", "notation", "words", "memory", "triple", "steps", "closed", "rests", "alike", "plans",
         "log", "craft", "letters", "ground", "link", "known", "desk", "report", "session"]


class ErrorsTest(unittest.TestCase):
    def test_all_errors_stand_under_one(self):
        self.assertEqual(FarError.__bases__, (ValueError,))
        for name in FILES:
            module = importlib.import_module(f"farword.{name}")
            for _, made_here in inspect.getmembers(module, inspect.isclass):
                if made_here.__module__ == module.__name__ and issubclass(made_here, Exception):
                    self.assertIs(module, errors)
                    if made_here is not FarError:
                        self.assertEqual(made_here.__bases__, (FarError,))


def random_world(seed, deeds):
    """A world behind drawn deeds, and the inputs that its craft has taken."""
    chance = random.Random(seed)
    parts = parts_by_chance(seed, holds=3, modes=3, commands=2, alarms=2, rows=1)
    plain, world, taken = Plain(parts), World(made(parts), chance.randint(1, 4), 10 + 2 * (seed % 3), 1), []
    lots = [lot for lot, order in plain.inputs() if order is None]
    orders = [order for _, order in plain.inputs() if order is not None]
    for _ in range(deeds):
        deed = chance.choice(["ask", "send", "deliver", "deliver", "deliver", "lose", "tick", "tick", "fall", "rise"])
        numbers = [number for number, _ in world.letters()]
        if deed == "ask":
            world.ask(chance.choice(orders))
        elif deed == "send":
            world.send()
        elif deed in ("deliver", "lose") and numbers:
            getattr(world, deed)(chance.choice(numbers))
        elif deed == "tick":
            waits, ticks, lot = world.waiting(), world.ticks(), chance.choice(lots)
            world.tick(lot, fall=chance.choice([None] * 9 + [0, 5]))
            if world.ticks() > ticks:
                taken.append((lot, None if waits is None else waits[1]))
        elif deed in ("fall", "rise"):
            getattr(world, deed)(chance.randint(0, 1))
    return parts, world, taken


class WorldTest(unittest.TestCase):
    """What the ground tells of a craft by what it has sent and heard."""

    def test_the_true_pair_is_known(self):
        open_ones = small = 0
        for seed in range(60):
            parts, world, taken = random_world(seed, 60)
            book, plain = made(parts), Plain(parts)
            self.assertEqual(len(taken), world.ticks())
            alarms = tuple(sorted(part[0] for part in parts["alarms"]))
            told = (book, world.sent(), alarms, world.frames())
            self.assertIs(is_fitting(*told, taken), True)
            pair = (world.standing(), world.orders())
            self.assertEqual(pair[0], plain.behind(plain.first(), taken))
            try:
                pairs = known(*told, world.ticks())
            except TooLarge:
                continue
            small += 1
            self.assertIn(pair, pairs)
            on, off, unsure = sure_holds(book, pairs)
            self.assertLessEqual(set(on), set(pair[0][1]))
            self.assertEqual(set(off) & set(pair[0][1]), set())
            open_ones += len(unsure) > 0
            self.check_histories(told, taken, plain, pairs)
        self.assertGreater(small, 40)
        self.assertGreater(open_ones, 5)

    def check_histories(self, told, taken, plain, pairs):
        now = len(taken)
        sets = sets_known(*told, now)
        self.assertEqual(sets[-1], pairs)
        self.assertIs(check_sets(*told, sets), True)
        for then in range(now + 1):
            row = taken[:then]
            pair = (plain.behind(plain.first(), row), sum(order is not None for _, order in row))
            self.assertIn(pair, sets[then])
            self.assertIn(pair, known_then(*told, now, then))
        for pair in pairs[::5]:
            self.assertIs(is_fitting(*told, fitting_history(*told, now, pair)), True)

    def test_all_orders_come_by_at_last(self):
        for seed in range(30):
            parts, world, _ = random_world(seed, 50)
            world.rise(0)
            self.assertIs(world.settle(), True)
            self.assertEqual((world.known(), world.orders()), (len(world.asked()), len(world.asked())))
            tick, count, mode, on = world.frames()[-1] if world.frames() else (0, 0, *Plain(parts).first()[:2])
            self.assertEqual((tick, count, mode, on), (world.ticks(), world.orders(), *world.standing()[:2]))

    def test_letters_of_a_world(self):
        many = 0
        for seed in range(20):
            for _, letter in random_world(seed, 40)[1].letters():
                self.assertEqual(read_letter(format_letter(letter)), letter)
                many += 1
        self.assertGreater(many, 20)

    def test_plans_on_the_ground(self):
        # A row of orders that brings a wish from all that is known brings it in each craft that can be the true one.
        brought = 0
        for seed in range(30):
            parts, world, taken = random_world(seed, 20)
            plain, book = Plain(parts), made(parts)
            pairs = known(book, world.sent(), tuple(sorted(part[0] for part in parts["alarms"])), world.frames(),
                          world.ticks())
            crowd = sorted({standing for standing, _ in pairs}, key=repr)
            wish = (parts["modes"][-1][0], (), ())
            row = best_row(book, crowd, wish, (), 3)
            if row is not None:
                brought += 1
                inputs = [*taken, *[((), order) for order in row]]
                self.assertEqual(plain.behind(plain.first(), inputs)[0], wish[0])
                for order in row[:1]:
                    behind = plain.behind(plain.first(), inputs[:len(taken) + 1])
                    self.assertIn(behind, comes_of(book, crowd, order, ()))
        self.assertGreater(brought, 10)


class PartsTest(unittest.TestCase):
    def test_the_craft_has_what_the_plain_book_has(self):
        for seed in range(15):
            parts = parts_by_chance(seed, rows=2)
            chance, craft = random.Random(seed), Craft(made(parts), 12, 1)
            inputs = [chance.choice(Plain(parts).inputs()) for _ in range(30)]
            steps = [craft.tick(*told) for told in inputs]
            self.assertEqual([vars(step) for step in steps], [vars(step) for step in run_of(made(parts), inputs)])
            self.assertEqual(craft.standing(), steps[-1].standing)

    def test_questions_to_a_desk_and_a_session(self):
        for seed in range(25):
            book = made(parts_by_chance(seed, barred=2))
            word, told = verdict(book)
            desk, session = Desk(book), Session(book)
            self.assertEqual(desk.answer("reached"), len(reached(book)))
            self.assertEqual(desk.answer("barred"), None if word == "clean" else told)
            self.assertEqual(session.obey("verdict"), f"{word} {len(told)}")
            self.assertEqual(session.obey("rest"), str(desk.answer("rest")))
            self.assertEqual(desk.answer("rest"), rest_bound(book)[0])
            self.assertIs(check_ranks(book, ranks_of(book), rest_bound(book)[0]), True)
            if word == "clean":
                self.assertIs(check_table(book, told), True)
            else:
                self.assertEqual(history_table(book, told).split(" ")[-1], "BARRED" if told else "")

    def test_a_session_reads_what_is_written(self):
        for seed in range(25):
            parts = parts_by_chance(seed, barred=2, rows=2)
            book, plain, chance = made(parts), Plain(parts), random.Random(seed)
            session = Session(book)
            self.assertIs(parse_book(session.obey("book")).same_as(book), True)
            inputs = [chance.choice(plain.inputs()) for _ in range(8)]
            text = format_inputs(inputs)
            self.assertEqual(parse_inputs(book, text), inputs)
            replies = session.play("\n".join(f"tick {line}" for line in text.split("\n")))
            self.assertEqual([line.split(" -> ")[1] for line in history_table(book, inputs).split("\n")], replies)
            self.assertEqual(session.obey("stand"), standing_line(run_of(book, inputs)[-1].standing))

    def test_a_book_put_together_at_a_desk(self):
        for seed in range(25):
            parts = parts_by_chance(seed, barred=2, rows=2)
            deeds = [("put", "mode", part) for part in parts["modes"]] + [("drop", "mode", "start")]
            deeds += [("bar", lot) for lot in parts["barred"]]
            for sort, name in (("command", "commands"), ("alarm", "alarms"), ("row", "rows")):
                deeds.append(("all", [("put", sort, part) for part in parts[name]]))
            desk = Desk(made(SMALLEST, holds=parts["holds"], modes=[("start", (), ())]))
            desk.change_all([*deeds, ("quiet", parts["quiet"])])
            self.assertEqual(parts_of(desk.book_now()), parts_of(made(parts)))
            self.assertEqual(format_book(desk.book_now()), format_book(made(parts)))

    def test_books_do_not_change(self):
        book = made(PLAIN)
        before = parts_of(book)
        for use in (reached, verdict, rest_bound, Desk, Session, format_book,
                    lambda told: World(told, 3, 10, 1).settle(),
                    lambda told: Craft(told, 10, 1).tick(("cold",), ("run", "plan"))):
            use(book)
            self.assertEqual(parts_of(book), before)


if __name__ == "__main__":
    unittest.main()
