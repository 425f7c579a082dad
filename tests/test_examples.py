"""All examples of the document, in their order."""

import doctest
import unittest

EXAMPLES = r"""
>>> from fourswaps.models import Model
>>> from fourswaps.tables import Table, alike
>>> chain, triangle = Model("columns a2 b2 c2\nlots ab bc"), Model("columns a2 b2 c2\nlots ab ac bc")
>>> first = Table.of(chain, ("000", "101", "101", "011"))
>>> [first.counts, first.sums, first.many, first.count("101"), len(first), alike(first, Table(chain, (("001", 1), ("011", 1), ("100", 1), ("101", 1))))]
[(('000', 1), ('011', 1), ('101', 2)), ((('00', 1), ('01', 1), ('10', 2)), (('00', 1), ('01', 2), ('11', 1))), 4, 2, 3, True]

>>> from fourswaps.swaps import keeps, neighbours, pieces, swapped, swaps
>>> [pieces(chain, "000", "101"), pieces(chain, "000", "111"), pieces(triangle, "000", "101"), keeps(chain, "000", "101", "c"), keeps(chain, "000", "111", "c")]
[('a', 'c'), ('abc',), ('ac',), True, False]
>>> [swaps(first), swapped(first, "000", "101", "c").counts, len(neighbours(first))]
[(('000', '101', 'c'),), (('001', 1), ('011', 1), ('100', 1), ('101', 1)), 1]

>>> from fourswaps.webs import hole, is_acyclic, order, stay_apart
>>> square = Model("columns a2 b2 c2 d2\nlots ab ad bc cd")
>>> [is_acyclic(chain), is_acyclic(triangle), is_acyclic(square), hole(triangle), hole(chain), order(triangle), sorted(hole(square)[1]), order(Model("columns a2 b2\nlots ab"))]
[True, False, False, ('group', 'abc'), None, None, ['a', 'b', 'c', 'd'], (('ab', None, ''),)]
>>> even, odd = stay_apart(triangle, ("group", "abc"))
>>> [even.counts, odd.count("111"), alike(even, odd), swaps(even), stay_apart(square, ("ring", "abcd"))[0].counts]
[(('000', 1), ('011', 1), ('101', 1), ('110', 1)), 1, True, (), (('0000', 1), ('0111', 1), ('1011', 1), ('1100', 1))]

>>> from fourswaps.walks import joined, joined_tables, walk
>>> second = Table.of(chain, ("001", "100", "101", "011"))
>>> [joined(first, second), walk(even, odd), joined(even, odd), len(joined_tables(first)), joined_tables(even) == (even,)]
[True, None, False, 2, True]

>>> from fourswaps.fitting import clash, sums_without, table_with, tables_with
>>> bare = sums_without(triangle, ("group", "abc"))
>>> [bare, clash(triangle, bare), table_with(triangle, bare), tables_with(triangle, even.sums) == (even, odd), table_with(chain, first.sums).sums == first.sums]
[((('01', 1), ('10', 1)), (('00', 1), ('11', 1)), (('00', 1), ('11', 1))), None, None, True, True]
>>> clash(chain, ((("00", 1),), (("10", 1),)))
(0, 1)

>>> from fourswaps.ranges import hold_back, leaks, span, table_at
>>> [span(first, "000"), span(first, "101"), span(first, "011"), table_at(first, "101", 1).counts, leaks(first, 3), hold_back(first, 3)]
[(0, 1), (1, 2), (1, 1), (('001', 1), ('011', 1), ('100', 1), ('101', 1)), ('011',), ((0,), (1,))]

>>> from fourswaps.parting import parted
>>> [parted(chain, 3), parted(triangle, 3), parted(triangle, 4) == ((even.counts, odd.counts),)]
[(), (), True]

>>> from fourswaps.folders import Folder
>>> from fourswaps.telling import common_sets
>>> folder = Folder(first)
>>> done = [folder.put("000", 2), folder.swap("000", "101", "c"), folder.take("011"), folder.undo(), folder.changes, folder.counts]
>>> [done, common_sets(((first, second),)), common_sets(((even, odd),))]
[[None, None, None, None, 2, (('000', 2), ('001', 1), ('011', 1), ('100', 1), ('101', 1))], ('ab', 'bc'), ('ab', 'ac', 'bc')]

>>> from fourswaps.checker import accepts
>>> from fourswaps.papers import paper_at, paper_of_none, paper_of_range, paper_of_two, paper_of_web
>>> papers = [paper_of_web(chain), paper_of_web(triangle), paper_of_two(first, second), paper_of_two(even, odd), paper_of_none(triangle, ("group", "abc"))]
>>> [papers[0][0][0], papers[1][0][0], papers[2][0][0], papers[3][0][0], papers[4][0][0], paper_of_range(first, "000")[0][4:], paper_at(first, "000", 2)]
['acyclic', 'hole', 'joined', 'apart', 'no table', (0, 1), None]
>>> [accepts(papers[0][0], papers[0][1]), accepts(papers[2][0], papers[2][1]), accepts(papers[3][0], papers[3][1]), accepts(papers[4][0], papers[4][1]), accepts(papers[1][0], None)]
[True, True, True, True, False]
"""


class Examples(unittest.TestCase):
    def test_the_examples_hold(self):
        examples = doctest.DocTestParser().get_doctest(EXAMPLES, {}, "examples", None, 0)
        result = doctest.DocTestRunner().run(examples)
        self.assertEqual((result.attempted, result.failed), (34, 0))


if __name__ == "__main__":
    unittest.main()
