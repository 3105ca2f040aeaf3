import inspect
import unittest

from passyards import (blocks, counting, errors, fewest, leading, limits, lines, moves, reach, sheet, sightings, sizes,
                       small, texts, wishes, yard)

FUNCTIONS = {
    lines: {"is_line": ["thing"], "is_standing": ["line", "thing"], "capacity": ["line"], "trains": ["standing"],
            "place_of": ["standing", "train"], "counts": ["standing"]},
    blocks: {"order": ["line", "standing"], "joints": ["line", "many"], "blocks": ["line", "many"],
             "groups": ["line", "standing"], "block_of": ["line", "standing", "train"]},
    moves: {"can_move": ["line", "standing", "train", "side"], "moves": ["line", "standing"],
            "moved": ["line", "standing", "move"], "run": ["line", "standing", "row"], "back": ["row"]},
    leading: {"leads": ["line", "one", "other"], "bar": ["line", "one", "other"],
              "shows_bar": ["line", "one", "other", "thing"], "row_to": ["line", "one", "other"],
              "shows_row": ["line", "one", "other", "thing"]},
    reach: {"places_of": ["line", "standing", "train"], "may_meet": ["line", "standing", "one", "other"],
            "ever_ahead": ["line", "standing", "one", "other"]},
    sightings: {"fits": ["line", "many", "sightings"], "overfull": ["line", "many", "sightings"],
                "shows_run": ["line", "many", "sightings", "thing"],
                "blocks_for": ["line", "many", "sightings", "train"]},
    counting: {"reachable_many": ["line", "standing"], "standings_many": ["line", "many"],
               "lots_many": ["line", "many"], "reachable_at": ["line", "standing", "number"],
               "number_of": ["line", "standing", "other"]},
    wishes: {"cuts": ["line", "standing", "wish"], "granted": ["line", "standing", "wish"],
             "shows_cuts": ["line", "standing", "wish", "thing"]},
    sizes: {"with_size": ["line", "place", "size"], "is_free": ["line", "many"],
            "least_size": ["line", "many", "place"], "most_trains": ["line"], "joining_places": ["line", "many"]},
    texts: {"line_text": ["line"], "standing_text": ["standing"], "row_text": ["row"], "line_in": ["text"],
            "standing_in": ["line", "text"], "row_in": ["text"]},
    fewest: {"reversed_pairs": ["line", "one", "other"], "fewest": ["line", "one", "other"],
             "fewest_row": ["line", "one", "other"], "shows_fewest": ["line", "one", "other", "thing"]},
    small: {"all_from": ["line", "standing"], "distance": ["line", "one", "other"],
            "first_row": ["line", "one", "other"]},
    sheet: {"answers": ["text"]},
}


class Interface(unittest.TestCase):
    def test_functions_stand_in_their_files_with_their_arguments(self):
        for module, functions in FUNCTIONS.items():
            for name, arguments in functions.items():
                with self.subTest(module=module.__name__, name=name):
                    function = getattr(module, name)
                    parameters = inspect.signature(function).parameters.values()
                    self.assertTrue(inspect.isfunction(function))
                    self.assertEqual(function.__module__, module.__name__)
                    self.assertEqual([parameter.name for parameter in parameters], arguments)
                    for parameter in parameters:
                        self.assertIs(parameter.kind, inspect.Parameter.POSITIONAL_OR_KEYWORD)
                        self.assertIs(parameter.default, inspect.Parameter.empty)

    def test_modules_have_their_names(self):
        self.assertEqual([module.__name__ for module in (errors, limits, yard, *FUNCTIONS)],
                         ["passyards." + name for name in (
                             "errors", "limits", "yard", "lines", "blocks", "moves", "leading", "reach", "sightings",
                             "counting", "wishes", "sizes", "texts", "fewest", "small", "sheet")])


if __name__ == "__main__":
    unittest.main()
