"""The names and arguments of the interface."""

import importlib
import inspect
import unittest

# The functions of each file and their arguments.
FUNCTIONS = {
    "books": {"is_name": ["text"], "is_lot": ["names"], "is_order": ["book", "order"], "is_input": ["book", "told"],
              "check_inputs": ["book", "inputs"]},
    "notation": {"format_book": ["book"], "parse_book": ["text"], "format_inputs": ["inputs"],
                 "parse_inputs": ["book", "text"]},
    "words": {"places_of": ["bits"], "check_places": ["bits"], "data_places": ["bits"], "coded": ["bits", "value"],
              "value_in": ["bits", "row"], "spot_of": ["bits", "row"], "state_of": ["bits", "row"],
              "mended": ["bits", "row"], "flipped": ["row", "places"], "differing": ["one", "other"],
              "count_rows": ["bits"]},
    "triple": {"by_bits": ["copies"], "by_words": ["copies"], "odd_copies": ["copies"], "is_sure": ["flips"],
               "word_outcome": ["flips"], "ways_of": ["bits", "flips"]},
    "steps": {"first_standing": ["book"], "is_standing": ["book", "value"], "ascending": ["standings"],
              "tick": ["book", "standing", "alarms", "order"], "run_of": ["book", "inputs"], "orders_of": ["book"],
              "inputs_of": ["book"], "is_barred": ["book", "lot"]},
    "closed": {"reached": ["book"], "history_to": ["book", "standing"], "verdict": ["book"],
               "check_table": ["book", "table"], "is_barred_history": ["book", "history"]},
    "rests": {"rests": ["book", "standing"], "rest_time": ["book", "standing"], "rest_bound": ["book"],
              "ranks_of": ["book"], "check_ranks": ["book", "ranks", "bound"]},
    "alike": {"can_be_compared": ["one", "other"], "parting_history": ["one", "other"], "pairs_of": ["one", "other"],
              "check_pairs": ["one", "other", "pairs"], "needless_alarms": ["book"], "needless_commands": ["book"]},
    "plans": {"meets": ["standing", "wish"], "comes_of": ["book", "crowd", "order", "alarms"],
              "brings": ["book", "crowd", "orders", "wish", "alarms"],
              "miss_of": ["book", "crowd", "orders", "wish", "alarms"],
              "best_row": ["book", "crowd", "wish", "alarms", "most"],
              "none_paper": ["book", "crowd", "wish", "alarms", "most"],
              "check_none": ["book", "crowd", "wish", "alarms", "paper"]},
    "log": {"input_word": ["book", "alarms", "order", "turn"], "word_input": ["book", "word", "turn"],
            "standing_word": ["book", "standing"], "word_standing": ["book", "word"],
            "begin_log": ["book", "memory"], "read_log": ["book", "memory"],
            "writes_for": ["book", "memory", "alarms", "order"]},
    "letters": {"format_letter": ["letter"], "read_letter": ["text"]},
    "known": {"may_take": ["sent", "count", "tick"], "fits_frames": ["standing", "count", "tick", "frames"],
              "sets_known": ["book", "sent", "alarms", "frames", "now"],
              "known": ["book", "sent", "alarms", "frames", "now"],
              "known_then": ["book", "sent", "alarms", "frames", "now", "then"],
              "fitting_history": ["book", "sent", "alarms", "frames", "now", "pair"],
              "is_fitting": ["book", "sent", "alarms", "frames", "history"],
              "check_sets": ["book", "sent", "alarms", "frames", "sets"], "sure_holds": ["book", "pairs"],
              "modes_in": ["pairs"]},
    "report": {"standing_line": ["standing"], "history_table": ["book", "inputs"]},
}
# The classes of each file, the arguments of their calls, and their properties and methods.
CLASSES = {
    "books": {"Book": (["holds", "modes", "barred", "commands", "alarms", "rows", "quiet"],
                       ["holds", "modes", "barred", "commands", "alarms", "rows", "quiet", "safe"],
                       {"mode_named": ["name"], "command_named": ["name"], "alarm_named": ["name"],
                        "row_named": ["name"], "with_part": ["sort", "part"], "without_part": ["sort", "name"],
                        "with_barred": ["lot"], "without_barred": ["lot"], "with_quiet": ["quiet"],
                        "same_as": ["other"]})},
    "memory": {"Memory": (["cells", "bits"], [],
                          {"write": ["cell", "value"], "read": ["cell"], "scrub": ["cell"], "scrub_all": [],
                           "flip": ["cell", "place"], "row_at": ["cell"], "state_at": ["cell"], "twin": []})},
    "steps": {"Step": (["standing", "done", "refused", "moments"], [], {})},
    "log": {"Told": (["turn", "standing", "ticks", "orders", "inputs"], [], {})},
    "craft": {"Craft": (["book", "cells", "beats"], [],
                        {"tick": ["alarms", "order", "*fall"], "fall": ["side"], "rise": ["side"], "is_up": ["side"],
                         "running": [], "standing": [], "ticks": [], "orders": [], "inputs": [],
                         "flip": ["cell", "place"]})},
    "ground": {"Ground": (["book", "window"], [],
                          {"ask": ["order"], "send": [], "can_be": ["frame"], "hear": ["frame"], "known": [],
                           "newest": [], "asked": [], "sent": [], "frames": []})},
    "link": {"World": (["book", "window", "cells", "beats"], [],
                       {"ask": ["order"], "send": [], "letters": [], "deliver": ["number"], "lose": ["number"],
                        "double": ["number"], "tick": ["alarms", "*fall"], "fall": ["side"], "rise": ["side"],
                        "flip": ["cell", "bit"], "waiting": [], "standing": [], "ticks": [], "orders": [],
                        "running": [], "known": [], "asked": [], "sent": [], "frames": [], "settle": []})},
    "desk": {"Desk": (["book"], ["found"],
                      {"put_part": ["sort", "part"], "drop_part": ["sort", "name"], "bar": ["lot"], "unbar": ["lot"],
                       "set_quiet": ["quiet"], "book_now": [], "answer": ["question"], "undo": [], "redo": [],
                       "trial": [], "change_all": ["deeds"]}),
             "Trial": (["desk"], [], {"__enter__": []})},
    "session": {"Session": (["book"], [], {"obey": ["line"], "play": ["text"]})},
}


def arguments_of(function):
    """The names of the arguments; a star stands ahead of those that are passed by name alone."""
    told = inspect.signature(function).parameters.values()
    return ["*" + argument.name if argument.kind == argument.KEYWORD_ONLY else argument.name for argument in told]


class InterfaceTest(unittest.TestCase):
    def test_functions(self):
        for file, functions in FUNCTIONS.items():
            module = importlib.import_module(f"farword.{file}")
            for name, arguments in functions.items():
                with self.subTest(file=file, name=name):
                    function = getattr(module, name)
                    self.assertEqual(function.__module__, f"farword.{file}")
                    self.assertEqual(arguments_of(function), arguments)

    def test_classes(self):
        for file, classes in CLASSES.items():
            module = importlib.import_module(f"farword.{file}")
            for name, (arguments, properties, methods) in classes.items():
                made = getattr(module, name)
                self.assertEqual(made.__module__, f"farword.{file}")
                self.assertEqual(arguments_of(made), arguments)
                for word in properties:
                    self.assertIsInstance(vars(made)[word], property)
                for method, told in methods.items():
                    with self.subTest(file=file, name=name, method=method):
                        self.assertEqual(arguments_of(vars(made)[method]), ["self", *told])


if __name__ == "__main__":
    unittest.main()
