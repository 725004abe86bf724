"""Reports: standings and histories in lines."""

from farword.notation import format_input, format_lot
from farword.steps import is_barred, run_of


def standing_line(standing):
    """The line that writes a standing."""
    mode, lot, row, place, left, silence = standing
    name = "-" if row is None else row
    return f"{mode} {format_lot(lot)} {name} {place} {left} {silence}"


def step_line(book, step):
    """What a history's line of a tick says behind the arrow."""
    mode, lot = step.standing[:2]
    words = [mode, format_lot(lot)]
    if len(step.done) > 0:
        words.extend(["done", ",".join(step.done)])
    if len(step.refused) > 0:
        words.extend(["refused", ",".join(step.refused)])
    if any([is_barred(book, moment) for moment in step.moments]):
        words.append("BARRED")
    return " ".join(words)


def history_table(book, inputs):
    """The lines of a history, one for each tick. Raises InvalidInput."""
    lines = []
    for at, step in enumerate(run_of(book, inputs)):
        lines.append(f"{at + 1}: {format_input(inputs[at])} -> {step_line(book, step)}")
    return "\n".join(lines)
