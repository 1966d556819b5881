"""The examples of the document, as they stand."""

import doctest
import unittest

EXAMPLES = r"""
>>> from freelots.rows import Rows
>>> rows = Rows([[1, 0], [0, 1], [1, 1], [2, 2]])
>>> [rows.rank([2, 3]), rows.is_free([0, 2]), rows.hull([2]), rows.ring([2, 3]), rows.text()]
[1, True, [2, 3], {2: 2, 3: -1}, 'field 0\n1 0\n0 1\n1 1\n2 2']
>>> from freelots.lots import fewest, is_many, is_parting, parted
>>> [parted(rows, 1)[0], parted(rows, 2)[0], is_parting(rows, 2, [[0, 2], [1, 3]]), is_many(rows, 1, [2, 3]), is_many(rows, 2, [2, 3])]
['many', 'lots', True, True, False]
>>> from freelots.known import full_web, seven, units
>>> [len(fewest(full_web(6))[1]), len(fewest(seven())[1]), fewest(Rows([]))]
[3, 3, ('lots', [], [])]
>>> from freelots.live import Keeper
>>> keeper = Keeper(Rows([[1, 0], [2, 0], [0, 1]]), 2)
>>> [keeper.come(0) in [{0: 0}, {0: 1}], keeper.more(), keeper.go(0) in [0, 1], keeper.lots()]
[True, 2, True, [[], [], []]]
>>> from freelots.thick import layers, thickness
>>> [thickness(full_web(4)), layers(Rows([[1, 0], [2, 0], [0, 1]]))]
[(2, 1), [(2, 1, [0, 1]), (1, 1, [2])]]
>>> from freelots.bases import exchanges, most_apart
>>> [most_apart(units(2, 3)), exchanges(units(2, 2), [0, 2], [1, 2])]
[3, [(0, 1)]]
>>> from freelots.many import fewest_many
>>> fewest_many(seven(), [10 ** 20] * 7)
233333333333333333334
>>> from freelots.common import chosen
>>> [chosen(rows, [[2, 3], [2]])[0], chosen(rows, [[0], [1]]), len(chosen(rows, [[2], [3]])[1])]
['classes', ('rows', [0, 1]), 2]
"""


class ExamplesTest(unittest.TestCase):

    def test_examples(self):
        test = doctest.DocTestParser().get_doctest(EXAMPLES, {}, "examples", None, 0)
        told = doctest.DocTestRunner().run(test)
        self.assertEqual(told.failed, 0)
        self.assertEqual(told.attempted, 18)


if __name__ == "__main__":
    unittest.main()
