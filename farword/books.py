"""Books: their parts and the rules for them, and what is an order or an input of a book."""

from farword.errors import InvalidBook, InvalidInput, NameInUse, UnknownName

NAME_SIGNS = "abcdefghijklmnopqrstuvwxyz0123456789"
LONGEST_NAME = 12
MOST_HOLDS = 6
MOST_MODES = 5
MOST_BARRED = 8
MOST_COMMANDS = 8
MOST_ALARMS = 4
MOST_ROWS = 3
MOST_STEPS = 4
MOST_TICKS = 9
MOST_QUIET = 30


def is_name(text):
    """Whether the string is a name."""
    return 1 <= len(text) <= LONGEST_NAME and all([sign in NAME_SIGNS for sign in text])


def is_lot(names):
    """Whether the tuple of strings is a lot of names."""
    return all([is_name(name) for name in names]) and list(names) == sorted(set(names))


def demand(holds_true, why):
    """Raises InvalidBook with these words if a rule does not hold."""
    if not holds_true:
        raise InvalidBook(why)


def names_of(parts):
    """The names of tuples that begin with their names."""
    return [part[0] for part in parts]


def check_count(things, least, most, what):
    """Raises InvalidBook if there are too few or too many things."""
    demand(least <= len(things) <= most, f"there are {least} to {most} {what}")


def check_names(names, what):
    """Raises InvalidBook unless all are names and no two are the same."""
    demand(all([is_name(name) for name in names]), f"a name that is none among the {what}")
    demand(len(set(names)) == len(names), f"a name comes twice among the {what}")


def check_width(part, width, what):
    """Raises InvalidBook if the tuple has another number of parts."""
    demand(len(part) == width, f"a tuple of the {what} has {width} parts")


def check_parts(parts, least, most, width, what):
    """Raises InvalidBook unless so many tuples of this width have different names."""
    check_count(parts, least, most, what)
    for part in parts:
        check_width(part, width, what)
    check_names(names_of(parts), what)


def check_lot(lot, names, what):
    """Raises InvalidBook unless the tuple is a lot of some of these names."""
    demand(is_lot(lot), f"a lot that is none among the {what}")
    demand(all([name in names for name in lot]), f"an unknown name in a lot of the {what}")


def check_effect(on, off, holds, what):
    """Raises InvalidBook unless these are two lots of holds that have none in common."""
    check_lot(on, holds, what)
    check_lot(off, holds, what)
    demand(not any([hold in off for hold in on]), f"a hold goes on and off among the {what}")


def check_target(to, modes, what):
    """Raises InvalidBook unless this is None or one of the names of modes."""
    demand(to is None or to in modes, f"an unknown mode among the {what}")


def check_holds(holds):
    """Raises InvalidBook unless the list can be the holds of a book."""
    check_count(holds, 1, MOST_HOLDS, "holds")
    check_names(holds, "holds")


def check_modes(modes, holds):
    """Raises InvalidBook unless the list can be the modes of a book with these holds."""
    check_parts(modes, 1, MOST_MODES, 3, "modes")
    for _, on, off in modes:
        check_effect(on, off, holds, "modes")


def check_barred(barred, holds):
    """Raises InvalidBook unless the list can be the barred lots of a book with these holds."""
    check_count(barred, 0, MOST_BARRED, "barred lots")
    for lot in barred:
        check_lot(lot, holds, "barred lots")
        demand(len(lot) >= 2, "a barred lot has two or more holds")
    demand(len(set(barred)) == len(barred), "a barred lot comes twice")


def check_commands(commands, holds, modes):
    """Raises InvalidBook unless the list can be the commands of a book with these holds and names of modes."""
    check_parts(commands, 0, MOST_COMMANDS, 5, "commands")
    for _, let, on, off, to in commands:
        check_lot(let, modes, "commands")
        check_effect(on, off, holds, "commands")
        check_target(to, modes, "commands")


def check_alarms(alarms, holds, modes):
    """Raises InvalidBook unless the list can be the alarms of a book with these holds and names of modes."""
    check_parts(alarms, 0, MOST_ALARMS, 4, "alarms")
    for _, on, off, to in alarms:
        check_effect(on, off, holds, "alarms")
        check_target(to, modes, "alarms")


def check_rows(rows, commands):
    """Raises InvalidBook unless the list can be the rows of a book with these names of commands."""
    check_parts(rows, 0, MOST_ROWS, 2, "rows")
    for _, steps in rows:
        check_count(steps, 1, MOST_STEPS, "steps of a row")
        for step in steps:
            check_width(step, 2, "steps")
            demand(1 <= step[0] <= MOST_TICKS, f"the ticks of a step are 1 to {MOST_TICKS}")
            demand(step[1] in commands, "an unknown command in a row")


def check_quiet(quiet):
    """Raises InvalidBook unless this can be the quiet of a book."""
    demand(quiet is None or 1 <= quiet <= MOST_QUIET, f"quiet is None or 1 to {MOST_QUIET}")


class Book:
    """The rules by which a craft is run. Books do not change."""

    def __init__(self, holds, modes, barred, commands, alarms, rows, quiet):
        check_holds(holds)
        check_modes(modes, holds)
        check_barred(barred, holds)
        check_commands(commands, holds, names_of(modes))
        check_alarms(alarms, holds, names_of(modes))
        check_rows(rows, names_of(commands))
        check_quiet(quiet)
        ordered = sorted(commands, key=lambda command: command[0])
        self._holds = sorted(holds)
        self._barred = sorted(barred)
        # A dict by names keeps the order, and puts a part with a known name into its old place.
        self._parts = {
            "mode": {part[0]: part for part in modes},
            "command": {part[0]: part for part in ordered},
            "alarm": {part[0]: part for part in alarms},
            "row": {part[0]: part for part in rows},
        }
        self._quiet = quiet

    @property
    def holds(self):
        """The list of the holds, ascending."""
        return list(self._holds)

    @property
    def modes(self):
        """The list of the modes, the safe one first."""
        return list(self._parts["mode"].values())

    @property
    def barred(self):
        """The list of the barred lots, ascending."""
        return list(self._barred)

    @property
    def commands(self):
        """The list of the commands, ascending."""
        return list(self._parts["command"].values())

    @property
    def alarms(self):
        """The list of the alarms."""
        return list(self._parts["alarm"].values())

    @property
    def rows(self):
        """The list of the rows."""
        return list(self._parts["row"].values())

    @property
    def quiet(self):
        """Behind how many ticks without an order the safe mode is entered, or None."""
        return self._quiet

    @property
    def safe(self):
        """The name of the safe mode."""
        return self.modes[0][0]

    def mode_named(self, name):
        """The mode with this name."""
        return self._part_named("mode", name)

    def command_named(self, name):
        """The command with this name."""
        return self._part_named("command", name)

    def alarm_named(self, name):
        """The alarm with this name."""
        return self._part_named("alarm", name)

    def row_named(self, name):
        """The row with this name."""
        return self._part_named("row", name)

    def with_part(self, sort, part):
        """The book with this tuple behind those of its sort, or in the place of the one with its name."""
        parts = dict(self._parts[sort])
        parts[part[0]] = part
        return self._with_parts(sort, list(parts.values()))

    def without_part(self, sort, name):
        """The book without the tuple of this name."""
        gone = self._part_named(sort, name)
        if self._is_needed(sort, name):
            raise NameInUse(name)
        return self._with_parts(sort, [part for part in self._parts[sort].values() if part != gone])

    def with_barred(self, lot):
        """The book with one barred lot more."""
        return self._with_lots([*self._barred, lot])

    def without_barred(self, lot):
        """The book without this barred lot."""
        if lot not in self._barred:
            raise UnknownName(",".join(lot))
        return self._with_lots([other for other in self._barred if other != lot])

    def with_quiet(self, quiet):
        """The book with this quiet."""
        return Book(self.holds, self.modes, self.barred, self.commands, self.alarms, self.rows, quiet)

    def same_as(self, other):
        """Whether all parts of the other book are the same."""
        return self._all_parts() == other._all_parts()

    def _part_named(self, sort, name):
        if name not in self._parts[sort]:
            raise UnknownName(name)
        return self._parts[sort][name]

    def _is_needed(self, sort, name):
        """Whether another part of the book names this one."""
        if sort == "mode":
            lets = [let for _, let, _, _, _ in self.commands]
            targets = [part[-1] for part in [*self.commands, *self.alarms]]
            return name in targets or any([name in let for let in lets])
        if sort == "command":
            return any([name == command for _, steps in self.rows for _, command in steps])
        return False

    def _with_parts(self, sort, parts):
        """The book with these tuples instead of those of the sort."""
        table = {"mode": self.modes, "command": self.commands, "alarm": self.alarms, "row": self.rows}
        table[sort] = parts
        return Book(self.holds, table["mode"], self.barred, table["command"], table["alarm"], table["row"], self.quiet)

    def _with_lots(self, barred):
        """The book with these barred lots instead of its own."""
        return Book(self.holds, self.modes, barred, self.commands, self.alarms, self.rows, self.quiet)

    def _all_parts(self):
        return (self.holds, self.modes, self.barred, self.commands, self.alarms, self.rows, self.quiet)


def is_order(book, order):
    """Whether the tuple of strings is an order of the book."""
    if len(order) != 2:
        return order == ("stop",)
    word, name = order
    if word == "do":
        return name in names_of(book.commands)
    return word == "run" and name in names_of(book.rows)


def is_input(book, told):
    """Whether the tuple of alarms and an order, or None, is an input of the book."""
    if len(told) != 2:
        return False
    alarms, order = told
    known = names_of(book.alarms)
    return is_lot(alarms) and all([name in known for name in alarms]) and (order is None or is_order(book, order))


def check_inputs(book, inputs):
    """Raises InvalidInput for the first thing in the list that is no input of the book."""
    for told in inputs:
        if not is_input(book, told):
            raise InvalidInput(f"no input of the book: {told!r}")
