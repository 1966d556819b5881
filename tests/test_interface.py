"""The names, parameters and places of the interface."""

import doctest
import importlib
import inspect
import unittest
from pathlib import Path

README = Path(__file__).resolve().parent.parent / "README.md"

FUNCTIONS = {
    "lots": {"parted": ["table", "count"], "is_parting": ["table", "count", "lots"],
             "is_many": ["table", "count", "lot"], "fewest": ["table"], "placed": ["tables", "sizes"],
             "is_placing": ["tables", "sizes", "lots"], "bound": ["tables", "sizes", "lot"]},
    "webs": {"web_rows": ["places", "ties"], "woods": ["places", "ties"]},
    "bases": {"apart": ["table", "count"], "most_apart": ["table"], "exchanges": ["table", "one", "other"],
              "partners": ["table", "one", "other"]},
    "prices": {"dearest": ["table", "count", "prices"], "cheapest": ["table", "count", "prices"],
               "price_paper": ["table", "count", "prices"],
               "is_price_paper": ["table", "count", "prices", "lots", "paper"]},
    "many": {"parted_many": ["table", "times", "count"], "fewest_many": ["table", "times"]},
    "thick": {"thickness": ["table"], "thickest": ["table"], "layers": ["table"], "layer_papers": ["table"],
              "are_layers": ["table", "lots", "papers"]},
    "common": {"common": ["one", "other"], "chosen": ["table", "classes"]},
    "fields": {"spoilt": ["table", "prime"]},
    "games": {"is_hold": ["table", "goal", "kept", "free", "one", "two"]},
    "frames": {name: ["places", "bars"] for name in ("strength", "is_stiff", "sound_bars", "spare_bars", "overfull",
                                                     "stiff_parts", "more_bars")},
    "rooted": {"rooted": ["places", "ways", "root", "count"], "most_rooted": ["places", "ways", "root"],
               "is_rooted": ["places", "ways", "root", "wood"],
               "cheapest_rooted": ["places", "ways", "root", "prices"],
               "rooted_paper": ["places", "ways", "root", "prices"]},
    "dear": {"dear_common": ["one", "other", "prices"], "is_split": ["one", "other", "prices", "lot", "split"]},
    "known": {"moments": ["count", "width"], "units": ["width", "times"], "full_web": ["places"], "seven": []},
}
CLASSES = {
    "rows": {"Rows": {"__init__": ["self", "rows", "field"], "row_at": ["self", "row"], "rank": ["self", "lot"],
                      "is_free": ["self", "lot"], "hull": ["self", "lot"], "ring": ["self", "lot"],
                      "text": ["self"], "parse": ["cls", "text"], "__len__": ["self"], "__eq__": ["self", "other"]}},
    "live": {"Keeper": {"__init__": ["self", "table", "count"], "lots": ["self"], "come": ["self", "row"],
                        "go": ["self", "row"], "more": ["self"], "less": ["self", "place"], "undo": ["self"],
                        "again": ["self"]}},
    "games": {"Game": {"__init__": ["self", "table", "goal", "first"], "kept_rows": ["self"], "cut_rows": ["self"],
                       "free_rows": ["self"], "turn": ["self"], "winner": ["self"], "winning": ["self"],
                       "take": ["self", "row"], "undo": ["self"], "again": ["self"], "hold": ["self"]}},
}
PROPERTIES = {("rows", "Rows"): ["field", "width"], ("live", "Keeper"): ["table"],
              ("games", "Game"): ["table", "goal"]}


def module(name):
    return importlib.import_module(f"freelots.{name}")


class InterfaceTest(unittest.TestCase):

    def test_functions(self):
        for place, functions in FUNCTIONS.items():
            for name, parameters in functions.items():
                function = getattr(module(place), name)
                self.assertEqual(function.__module__, f"freelots.{place}")
                self.assertEqual(list(inspect.signature(function).parameters), parameters)

    def test_classes(self):
        for place, classes in CLASSES.items():
            for name, methods in classes.items():
                kind = getattr(module(place), name)
                self.assertEqual(kind.__module__, f"freelots.{place}")
                for method, parameters in methods.items():
                    made = vars(kind)[method]
                    plain = getattr(made, "__func__", made)
                    self.assertEqual(list(inspect.signature(plain).parameters), parameters)
        self.assertIsInstance(vars(module("rows").Rows)["parse"], classmethod)

    def test_properties(self):
        for (place, name), properties in PROPERTIES.items():
            for prop in properties:
                self.assertIsInstance(vars(getattr(module(place), name))[prop], property)

    def test_nothing_is_assigned_to_a_property(self):
        table = module("rows").Rows([[1]])
        for name in ("field", "width"):
            with self.assertRaises(AttributeError):
                setattr(table, name, 2)
        with self.assertRaises(AttributeError):
            module("live").Keeper(table, 1).table = table
        for name, value in (("table", table), ("goal", 0)):
            with self.assertRaises(AttributeError):
                setattr(module("games").Game(table, 0, "cut"), name, value)

    def test_each_parameter_by_its_name(self):
        rows, lots, live = module("rows"), module("lots"), module("live")
        table = rows.Rows(rows=[[1], [2]], field=3)
        self.assertEqual(table, rows.Rows([[1], [2]], 3))
        self.assertEqual(table.row_at(row=1), (2,))
        self.assertEqual(table.rank(lot=[0, 1]), 1)
        self.assertFalse(table.is_free(lot=[0, 1]))
        self.assertEqual(table.hull(lot=[0]), [0, 1])
        self.assertEqual(table.ring(lot=[0, 1]), {0: 1, 1: 1})
        self.assertEqual(rows.Rows.parse(text=table.text()), table)
        self.assertEqual(lots.parted(table=table, count=1), ("many", [0, 1]))
        self.assertTrue(lots.is_parting(table=table, count=2, lots=[[0], [1]]))
        self.assertTrue(lots.is_many(table=table, count=1, lot=[0, 1]))
        self.assertEqual(lots.fewest(table=table)[2], [0, 1])
        self.assertEqual(len(lots.placed(tables=[table], sizes=[1])), 2)
        self.assertTrue(lots.is_placing(tables=[table], sizes=[1], lots=[[1]]))
        self.assertEqual(lots.bound(tables=[table], sizes=[1], lot=[0, 1]), 1)
        keeper = live.Keeper(table=table, count=1)
        self.assertEqual(keeper.come(row=1), {1: 0})
        self.assertEqual(keeper.go(row=1), 0)
        self.assertEqual(keeper.less(place=0), {})

    def test_each_parameter_of_webs_and_bases_by_its_name(self):
        webs, bases, table = module("webs"), module("bases"), module("rows").Rows([[1], [2]])
        self.assertEqual(webs.web_rows(places=1, ties=[(0, 0)]), module("rows").Rows([[0]]))
        self.assertEqual(webs.woods(places=2, ties=[(0, 1)]), ("lots", [[0]], [0]))
        self.assertEqual(bases.apart(table=table, count=0), ("bases", []))
        self.assertEqual(bases.most_apart(table=table), 2)
        self.assertEqual(bases.exchanges(table=table, one=[0], other=[1]), [(0, 1)])
        self.assertEqual(bases.partners(table=table, other=[1], one=[0]), {0: 1})

    def test_each_parameter_of_prices_and_many_by_its_name(self):
        prices, many, table = module("prices"), module("many"), module("rows").Rows([[1], [2]])
        self.assertEqual(prices.dearest(table=table, count=1, prices=[3, 4]), (4, [[1]]))
        self.assertEqual(prices.cheapest(table=table, count=1, prices=[3, 4]), ("bases", 3, [[0]]))
        paper = prices.price_paper(table=table, count=1, prices=[3, 4])
        self.assertEqual([level for level, _ in paper], [4, 3])
        self.assertTrue(prices.is_price_paper(table=table, count=1, prices=[3, 4], lots=[[1]], paper=paper))
        self.assertEqual(many.parted_many(table=table, times=[2, 0], count=2), ("lots", [([0], 2)]))
        self.assertEqual(many.fewest_many(table=table, times=[2, 1]), 3)

    def test_each_parameter_of_thick_and_common_by_its_name(self):
        thick, common, table = module("thick"), module("common"), module("rows").Rows([[1, 0], [2, 0], [0, 1]])
        self.assertEqual(thick.thickness(table=table), (2, 1))
        self.assertEqual(thick.thickest(table=table), [0, 1])
        self.assertEqual(thick.layers(table=table), [(2, 1, [0, 1]), (1, 1, [2])])
        papers = thick.layer_papers(table=table)
        self.assertIs(thick.are_layers(table=table, lots=[[0, 1], [2]], papers=papers), True)
        self.assertEqual(len(common.common(one=table, other=table)[0]), 2)
        self.assertEqual(common.chosen(table=table, classes=[[2], [1]]), ("rows", [2, 1]))

    def test_each_parameter_of_fields_and_games_by_its_name(self):
        games, table = module("games"), module("rows").Rows([[1, 0], [2, 0], [0, 1]])
        self.assertEqual(module("fields").spoilt(table=table, prime=2), [1])
        game = games.Game(table=table, goal=0, first="keep")
        self.assertIs(game.take(row=1), True)
        self.assertIs(games.is_hold(table=table, goal=0, kept=[1], free=[2], one=[], two=[]), True)

    def test_each_parameter_of_frames_and_rooted_by_its_name(self):
        frames, rooted = module("frames"), module("rooted")
        told = [getattr(frames, name)(bars=[(0, 1), (1, 0)], places=2) for name in FUNCTIONS["frames"]]
        self.assertEqual(told, [1, True, [0], [0, 1], [0, 1], [[0, 1]], []])
        web = {"ways": [(0, 1), (1, 0)], "root": 1, "places": 2}
        self.assertEqual(rooted.rooted(count=1, **web), ("woods", [[1]]))
        self.assertEqual(rooted.most_rooted(**web), 1)
        self.assertIs(rooted.is_rooted(wood=[1], **web), True)
        self.assertEqual(rooted.cheapest_rooted(prices=[3, 4], **web), (4, [1]))
        self.assertEqual(rooted.rooted_paper(prices=[3, 4], **web), [([0], 4)])

    def test_each_parameter_of_dear_and_known_by_its_name(self):
        dear, known, table = module("dear"), module("known"), module("rows").Rows([[1], [2]])
        found = dear.dear_common(one=table, other=table, prices=[3, 4])
        self.assertEqual([told[:2] for told in found], [(0, []), (4, [1])])
        self.assertIs(dear.is_split(one=table, other=table, prices=[3, 4], lot=[1], split=found[1][2]), True)
        self.assertEqual(known.moments(count=2, width=2), module("rows").Rows([[1, 0], [1, 1]]))
        self.assertEqual(known.units(width=1, times=2), module("rows").Rows([[1], [1]]))
        self.assertEqual(known.full_web(places=2), module("rows").Rows([[1, -1]]))

    def test_readme(self):
        told = doctest.testfile(str(README), module_relative=False, encoding="utf-8")
        self.assertEqual(told.failed, 0)
        self.assertGreater(told.attempted, 5)


if __name__ == "__main__":
    unittest.main()
