"""Books that several tests use."""

from farword.books import Book

PARTS = ("holds", "modes", "barred", "commands", "alarms", "rows", "quiet")

SMALLEST = {
    "holds": ["a"],
    "modes": [("m", (), ())],
    "barred": [],
    "commands": [],
    "alarms": [],
    "rows": [],
    "quiet": None,
}

PLAIN = {
    "holds": ["heat", "cam", "radio"],
    "modes": [("safe", ("radio",), ("cam", "heat")), ("work", ("cam",), ("heat",)), ("idle", (), ())],
    "barred": [("heat", "radio"), ("cam", "heat")],
    "commands": [
        ("warm", ("safe",), ("heat",), ("cam",), None),
        ("go", ("idle", "safe"), (), (), "work"),
        ("off", (), (), ("heat",), "safe"),
    ],
    "alarms": [("low", (), ("cam",), "safe"), ("cold", ("heat",), (), None)],
    "rows": [("plan", ((2, "go"), (1, "warm"))), ("again", ((9, "go"),))],
    "quiet": 4,
}

PLAIN_TEXT = "\n".join([
    "holds cam,heat,radio",
    "mode safe radio cam,heat",
    "mode work cam heat",
    "mode idle - -",
    "barred cam,heat",
    "barred heat,radio",
    "command go idle,safe - - work",
    "command off - - heat safe",
    "command warm safe heat cam -",
    "alarm low - cam safe",
    "alarm cold heat - -",
    "row plan 2:go 1:warm",
    "row again 9:go",
    "quiet 4",
])

LONG = "abcdefghij"
HOLDS = tuple(f"{LONG}h{k}" for k in range(6))
MODES = tuple(f"{LONG}m{k}" for k in range(5))
COMMANDS = tuple(f"{LONG}c{k}" for k in range(8))

# Each part is as large as it can be, and each name as long.
FULL = {
    "holds": list(HOLDS),
    "modes": [(name, HOLDS[:3], HOLDS[3:]) for name in MODES],
    "barred": [(HOLDS[k], HOLDS[k + 1]) for k in range(5)] + [HOLDS[:3], HOLDS[1:], HOLDS],
    "commands": [(name, MODES, HOLDS[:k % 6], HOLDS[k % 6:], MODES[k % 5]) for k, name in enumerate(COMMANDS)],
    "alarms": [(f"{LONG}a{k}", HOLDS, (), MODES[k]) for k in range(4)],
    "rows": [(f"{LONG}r{k}", tuple((9, COMMANDS[k + at]) for at in range(4))) for k in range(3)],
    "quiet": 30,
}


def made(parts, **changes):
    """The book with these parts, some of them changed."""
    told = {**parts, **changes}
    return Book(*[told[name] for name in PARTS])


def parts_of(book):
    """All parts of a book by their names."""
    return {name: getattr(book, name) for name in PARTS}

ALL_MODES = tuple(f"m{k}" for k in range(5))

# With quiet 25 just 2000 standings are reached: 5 modes, 16 lots of holds and 25 silences, in all ways.
WIDEST = {
    "holds": ["a", "b", "c", "d"],
    "modes": [(name, (), ()) for name in ALL_MODES],
    "barred": [],
    "commands": [(f"on{hold}", ALL_MODES, (hold,), (), None) for hold in "abcd"]
    + [(f"off{hold}", ALL_MODES, (), (hold,), None) for hold in "abcd"],
    "alarms": [(f"to{name}", (), (), name) for name in ALL_MODES[1:]],
    "rows": [],
    "quiet": 25,
}

# Just 2001 standings are reached: 16, 4, 2 and 1 lots of holds in the modes, and 86 places in rows, or no row.
ONE_TOO_MANY = {
    "holds": ["a", "b", "c", "d"],
    "modes": [("all", (), ()), ("four", (), ("c", "d")), ("two", (), ("b", "c", "d")),
              ("one", (), ("a", "b", "c", "d"))],
    "barred": [],
    "commands": [("on", ("all",), ("a", "b", "c", "d"), (), None), ("never", (), (), (), None)]
    + [(f"off{hold}", ("all",), (), (hold,), None) for hold in "abcd"],
    "alarms": [(f"to{name}", (), (), name) for name in ("all", "four", "two", "one")],
    "rows": [("r", ((9, "never"),) * 4), ("s", ((9, "never"),) * 4), ("t", ((9, "never"), (5, "never")))],
    "quiet": None,
}

# One mode in which each of six holds is turned on by a command: 64 lots of holds in 30 silences, in all ways.
MANY_LOTS = {
    "holds": ["a", "b", "c", "d", "e", "f"],
    "modes": [("m", (), ("a", "b", "c", "d", "e", "f"))],
    "barred": [],
    "commands": [(f"x{hold}", ("m",), (hold,), (), None) for hold in "abcdef"],
    "alarms": [],
    "rows": [],
    "quiet": 30,
}

# The row multiplies the standings by 10, so that too many are reached.
MANY_STAGES = {**MANY_LOTS, "rows": [("r", ((9, "xa"),))]}

# With quiet 25 just 2000 standings are reached, by commands alone.
MANY_COMMANDS = {
    "holds": ["a", "b", "c", "d"],
    "modes": [(name, (), ()) for name in ALL_MODES],
    "barred": [("a", "b")],
    "commands": [(f"x{hold}", ALL_MODES, (hold,), (), None) for hold in "abcd"]
    + [(f"to{name}", ALL_MODES, (), (), name) for name in ALL_MODES[1:]],
    "alarms": [],
    "rows": [],
    "quiet": 25,
}
