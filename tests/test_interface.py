"""The names, parameters and places of the interface."""

import doctest
import importlib
import inspect
import unittest
from pathlib import Path

README = Path(__file__).resolve().parent.parent / "README.md"

FUNCTIONS = {
    "lots": {"parted": ["table", "count"], "is_parting": ["table", "count", "lots"],
             "is_many": ["table", "count", "lot"], "fewest": ["table"], "placed": ["tables", "sizes"],
             "is_placing": ["tables", "sizes", "lots"], "bound": ["tables", "sizes", "lot"]},
    "webs": {"web_rows": ["places", "ties"], "woods": ["places", "ties"]},
    "bases": {"apart": ["table", "count"], "most_apart": ["table"], "exchanges": ["table", "one", "other"],
              "partners": ["table", "one", "other"]},
    "prices": {"dearest": ["table", "count", "prices"], "cheapest": ["table", "count", "prices"],
               "price_paper": ["table", "count", "prices"],
               "is_price_paper": ["table", "count", "prices", "lots", "paper"]},
    "many": {"parted_many": ["table", "times", "count"], "fewest_many": ["table", "times"]},
    "thick": {"thickness": ["table"], "thickest": ["table"], "layers": ["table"], "layer_papers": ["table"],
              "are_layers": ["table", "lots", "papers"]},
    "common": {"common": ["one", "other"], "chosen": ["table", "classes"]},
    "fields": {"spoilt": ["table", "prime"]},
    "games": {"is_hold": ["table", "goal", "kept", "free", "one", "two"]},
}
CLASSES = {
    "rows": {"Rows": {"__init__": ["self", "rows", "field"], "row_at": ["self", "row"], "rank": ["self", "lot"],
                      "is_free": ["self", "lot"], "hull": ["self", "lot"], "ring": ["self", "lot"],
                      "text": ["self"], "parse": ["cls", "text"], "__len__": ["self"], "__eq__": ["self", "other"]}},
    "live": {"Keeper": {"__init__": ["self", "table", "count"], "lots": ["self"], "come": ["self", "row"],
                        "go": ["self", "row"], "more": ["self"], "less": ["self", "place"], "undo": ["self"],
                        "again": ["self"]}},
    "games": {"Game": {"__init__": ["self", "table", "goal", "first"], "kept_rows": ["self"], "cut_rows": ["self"],
                       "free_rows": ["self"], "turn": ["self"], "winner": ["self"], "winning": ["self"],
                       "take": ["self", "row"], "undo": ["self"], "again": ["self"], "hold": ["self"]}},
}
PROPERTIES = {("rows", "Rows"): ["field", "width"], ("live", "Keeper"): ["table"],
              ("games", "Game"): ["table", "goal"]}


def module(name):
    return importlib.import_module(f"freelots.{name}")


class InterfaceTest(unittest.TestCase):

    def test_functions(self):
        for place, functions in FUNCTIONS.items():
            for name, parameters in functions.items():
                function = getattr(module(place), name)
                self.assertEqual(function.__module__, f"freelots.{place}")
                self.assertEqual(list(inspect.signature(function).parameters), parameters)

    def test_classes(self):
        for place, classes in CLASSES.items():
            for name, methods in classes.items():
                kind = getattr(module(place), name)
                self.assertEqual(kind.__module__, f"freelots.{place}")
                for method, parameters in methods.items():
                    made = vars(kind)[method]
                    plain = getattr(made, "__func__", made)
                    self.assertEqual(list(inspect.signature(plain).parameters), parameters)
        self.assertIsInstance(vars(module("rows").Rows)["parse"], classmethod)

    def test_properties(self):
        for (place, name), properties in PROPERTIES.items():
            for prop in properties:
                self.assertIsInstance(vars(getattr(module(place), name))[prop], property)

    def test_nothing_is_assigned_to_a_property(self):
        table = module("rows").Rows([[1]])
        for name in ("field", "width"):
            with self.assertRaises(AttributeError):
                setattr(table, name, 2)
        with self.assertRaises(AttributeError):
            module("live").Keeper(table, 1).table = table
        for name, value in (("table", table), ("goal", 0)):
            with self.assertRaises(AttributeError):
                setattr(module("games").Game(table, 0, "cut"), name, value)

    def test_each_parameter_by_its_name(self):
        rows, lots, live = module("rows"), module("lots"), module("live")
        table = rows.Rows(rows=[[1], [2]], field=3)
        self.assertEqual(table, rows.Rows([[1], [2]], 3))
        self.assertEqual(table.row_at(row=1), (2,))
        self.assertEqual(table.rank(lot=[0, 1]), 1)
        self.assertFalse(table.is_free(lot=[0, 1]))
        self.assertEqual(table.hull(lot=[0]), [0, 1])
        self.assertEqual(table.ring(lot=[0, 1]), {0: 1, 1: 1})
        self.assertEqual(rows.Rows.parse(text=table.text()), table)
        self.assertEqual(lots.parted(table=table, count=1), ("many", [0, 1]))
        self.assertTrue(lots.is_parting(table=table, count=2, lots=[[0], [1]]))
        self.assertTrue(lots.is_many(table=table, count=1, lot=[0, 1]))
        self.assertEqual(lots.fewest(table=table)[2], [0, 1])
        self.assertEqual(len(lots.placed(tables=[table], sizes=[1])), 2)
        self.assertTrue(lots.is_placing(tables=[table], sizes=[1], lots=[[1]]))
        self.assertEqual(lots.bound(tables=[table], sizes=[1], lot=[0, 1]), 1)
        keeper = live.Keeper(table=table, count=1)
        self.assertEqual(keeper.come(row=1), {1: 0})
        self.assertEqual(keeper.go(row=1), 0)
        self.assertEqual(keeper.less(place=0), {})

    def test_each_parameter_of_webs_and_bases_by_its_name(self):
        webs, bases, table = module("webs"), module("bases"), module("rows").Rows([[1], [2]])
        self.assertEqual(webs.web_rows(places=1, ties=[(0, 0)]), module("rows").Rows([[0]]))
        self.assertEqual(webs.woods(places=2, ties=[(0, 1)]), ("lots", [[0]], [0]))
        self.assertEqual(bases.apart(table=table, count=0), ("bases", []))
        self.assertEqual(bases.most_apart(table=table), 2)
        self.assertEqual(bases.exchanges(table=table, one=[0], other=[1]), [(0, 1)])
        self.assertEqual(bases.partners(table=table, other=[1], one=[0]), {0: 1})

    def test_each_parameter_of_prices_and_many_by_its_name(self):
        prices, many, table = module("prices"), module("many"), module("rows").Rows([[1], [2]])
        self.assertEqual(prices.dearest(table=table, count=1, prices=[3, 4]), (4, [[1]]))
        self.assertEqual(prices.cheapest(table=table, count=1, prices=[3, 4]), ("bases", 3, [[0]]))
        paper = prices.price_paper(table=table, count=1, prices=[3, 4])
        self.assertEqual([level for level, _ in paper], [4, 3])
        self.assertTrue(prices.is_price_paper(table=table, count=1, prices=[3, 4], lots=[[1]], paper=paper))
        self.assertEqual(many.parted_many(table=table, times=[2, 0], count=2), ("lots", [([0], 2)]))
        self.assertEqual(many.fewest_many(table=table, times=[2, 1]), 3)

    def test_each_parameter_of_thick_and_common_by_its_name(self):
        thick, common, table = module("thick"), module("common"), module("rows").Rows([[1, 0], [2, 0], [0, 1]])
        self.assertEqual(thick.thickness(table=table), (2, 1))
        self.assertEqual(thick.thickest(table=table), [0, 1])
        self.assertEqual(thick.layers(table=table), [(2, 1, [0, 1]), (1, 1, [2])])
        papers = thick.layer_papers(table=table)
        self.assertIs(thick.are_layers(table=table, lots=[[0, 1], [2]], papers=papers), True)
        self.assertEqual(len(common.common(one=table, other=table)[0]), 2)
        self.assertEqual(common.chosen(table=table, classes=[[2], [1]]), ("rows", [2, 1]))

    def test_each_parameter_of_fields_and_games_by_its_name(self):
        games, table = module("games"), module("rows").Rows([[1, 0], [2, 0], [0, 1]])
        self.assertEqual(module("fields").spoilt(table=table, prime=2), [1])
        game = games.Game(table=table, goal=0, first="keep")
        self.assertIs(game.take(row=1), True)
        self.assertIs(games.is_hold(table=table, goal=0, kept=[1], free=[2], one=[], two=[]), True)

    def test_examples(self):
        rows, lots, live = module("rows"), module("lots"), module("live")
        table = rows.Rows([[1, 0], [0, 1], [1, 1], [2, 2]])
        told = [table.rank([2, 3]), table.is_free([0, 2]), table.hull([2]), table.ring([2, 3]), table.text()]
        self.assertEqual(told, [1, True, [2, 3], {2: 2, 3: -1}, "field 0\n1 0\n0 1\n1 1\n2 2"])
        told = [lots.parted(table, 1)[0], lots.parted(table, 2)[0], lots.is_parting(table, 2, [[0, 2], [1, 3]]),
                lots.is_many(table, 1, [2, 3]), lots.is_many(table, 2, [2, 3])]
        self.assertEqual(told, ["many", "lots", True, True, False])
        self.assertEqual(lots.fewest(rows.Rows([])), ("lots", [], []))
        web = rows.Rows([[int(at == one) - int(at == two) for at in range(6)]
                         for one in range(6) for two in range(one + 1, 6)])
        seven = rows.Rows([[number // 4, number // 2 % 2, number % 2] for number in range(1, 8)], 2)
        self.assertEqual([len(lots.fewest(web)[1]), len(lots.fewest(seven)[1])], [3, 3])
        full = [(one, two) for one in range(6) for two in range(one + 1, 6)]
        self.assertEqual(module("webs").web_rows(6, full), web)
        three = rows.Rows([[1, 0]] * 3 + [[0, 1]] * 3)
        two = rows.Rows([[1, 0]] * 2 + [[0, 1]] * 2)
        told = [module("bases").most_apart(three), module("bases").exchanges(two, [0, 2], [1, 2])]
        self.assertEqual(told, [3, [(0, 1)]])
        self.assertEqual(module("many").fewest_many(seven, [10 ** 20] * 7), 233333333333333333334)
        common = module("common")
        told = [common.chosen(table, [[2, 3], [2]])[0], common.chosen(table, [[0], [1]]),
                len(common.chosen(table, [[2], [3]])[1])]
        self.assertEqual(told, ["classes", ("rows", [0, 1]), 2])
        four = module("webs").web_rows(4, [(one, two) for one in range(4) for two in range(one + 1, 4)])
        layers = module("thick").layers(rows.Rows([[1, 0], [2, 0], [0, 1]]))
        self.assertEqual([module("thick").thickness(four), layers], [(2, 1), [(2, 1, [0, 1]), (1, 1, [2])]])
        keeper = live.Keeper(rows.Rows([[1, 0], [2, 0], [0, 1]]), 2)
        told = [keeper.come(0) in [{0: 0}, {0: 1}], keeper.more(), keeper.go(0) in [0, 1], keeper.lots()]
        self.assertEqual(told, [True, 2, True, [[], [], []]])

    def test_readme(self):
        told = doctest.testfile(str(README), module_relative=False, encoding="utf-8")
        self.assertEqual(told.failed, 0)
        self.assertGreater(told.attempted, 5)


if __name__ == "__main__":
    unittest.main()
