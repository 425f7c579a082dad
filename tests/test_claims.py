"""Point [15] and the interface: claims of desks that hold, that do not, and that cannot be asked."""

import itertools
import unittest

import own_look
import own_search
from fourswaps.desks import Desk
from fourswaps.errors import Broken, NotAsked, TooMany
from fourswaps.models import Model
from fourswaps.tables import Table
from fourswaps.webs import stay_apart

MOST = 10 ** 30


def desk_with(text, **tables):
    desk = Desk(Model(text))
    for name, counts in tables.items():
        desk[name] = Table(Model(text), counts)
    return desk


def shown(desk):
    return desk.titles, [desk[name] for name in desk.titles], desk.claims, desk.changes


class Claims(unittest.TestCase):
    def broken(self, desk, call, index, told):
        before = shown(desk)
        with self.assertRaises(Broken) as caught:
            call()
        self.assertEqual((caught.exception.index, caught.exception.shown), (index, told))
        self.assertIs(type(caught.exception.shown), type(told))
        self.assertEqual(shown(desk), before)

    def not_asked(self, desk, call, index, limit):
        before = shown(desk)
        with self.assertRaises(NotAsked) as caught:
            call()
        self.assertEqual(caught.exception.index, index)
        self.assertIsInstance(caught.exception.__cause__, TooMany)
        self.assertEqual(caught.exception.__cause__.limit, limit)
        self.assertEqual(shown(desk), before)

    def put(self, desk, name, counts):
        desk[name] = Table(desk.model, counts)

    def test_alike_and_joined_tables(self):
        for text in (own_look.CHAIN, own_look.TRIANGLE, own_look.ALL_APART):
            tables = own_look.tables(text, 2) + own_look.tables(text, 1)
            for one, other in itertools.product(tables[::4], tables[::3]):
                unlike = [
                    at for at, pair in enumerate(zip(own_look.sums(text, one), own_look.sums(text, other)))
                    if pair[0] != pair[1]]
                for word in ("alike", "joined"):
                    desk = desk_with(text, a=one, b=other)
                    if unlike:
                        self.broken(desk, lambda: desk.claim((word, "a", "b")), 0, unlike[0])
                        continue
                    desk.claim((word, "a", "b"))
                    self.assertEqual((desk.claims, desk.changes), (((word, "a", "b"),), 3))

    def test_tables_that_stay_apart(self):
        for text in own_look.OTHERS:
            for value in own_look.holes(text)[:4]:
                even, odd = [table.counts for table in stay_apart(Model(text), value)]
                desk = desk_with(text, a=even, b=odd)
                desk.claim(("alike", "a", "b"))
                self.broken(desk, lambda: desk.claim(("joined", "a", "b")), 1, None)
                desk.claim(("joined", "a", "a"))
                desk.claim(("joined", "b", "b"))
                self.assertEqual(len(desk.claims), 3)
                # With unlike sums the first lot that shows it is told, for both words.
                self.broken(desk, lambda: self.put(desk, "a", ()), 0, 0)
        self.assertEqual(shown(desk)[3], 5)

    def test_each_lot_can_be_the_first_one_with_unlike_sums(self):
        text = own_look.LONG_CHAIN
        one = (("0000", 2),)
        for other, index in ((("1000", 2), 0), (("0100", 2), 0), (("0010", 2), 1), (("0001", 2), 2)):
            for word in ("alike", "joined"):
                desk = desk_with(text, a=one, b=(other,))
                self.broken(desk, lambda: desk.claim((word, "a", "b")), 0, index)
                self.broken(desk, lambda: desk.claim((word, "b", "a")), 0, index)
                desk = desk_with(text, a=one, b=one)
                desk.claim((word, "a", "b"))
                self.broken(desk, lambda: self.put(desk, "a", (other,)), 0, index)
                self.broken(desk, lambda: self.put(desk, "b", (other,)), 0, index)

    def test_rows_that_leak(self):
        seen = set()
        for text in (own_look.CHAIN, own_look.TRIANGLE, own_look.APART, own_look.SQUARE, own_look.SINGLE):
            for seed in range(25):
                counts = own_look.some_table(text, seed % 6, seed)
                group = own_search.found(text, own_look.sums(text, counts))
                for most in (1, 2, 1000):
                    right = own_search.leaking(group, most)
                    desk = desk_with(text, a=(), b=counts)
                    desk.claim(("kept", "a", most))
                    seen.add(len(right))
                    if right:
                        self.broken(desk, lambda: desk.claim(("kept", "b", most)), 1, right[0])
                        self.broken(desk, lambda: self.put(desk, "a", counts), 0, right[0])
                    else:
                        desk.claim(("kept", "b", most))
                        self.put(desk, "a", counts)
        self.assertTrue({0, 1, 2} <= seen)

    def test_ranges(self):
        for text in (own_look.CHAIN, own_look.TRIANGLE, own_look.APART, own_look.SQUARE):
            for seed in range(12):
                counts = own_look.some_table(text, seed % 6, seed)
                group = own_search.found(text, own_look.sums(text, counts))
                for row in own_look.rows(text)[::3] + [row for row, _ in counts]:
                    met = [dict(one).get(row, 0) for one in group]
                    told = (min(met), max(met))
                    for count in {0, told[0], told[0] + 1, told[1], told[1] + 1, MOST}:
                        desk = desk_with(text, a=counts)
                        claim = ("at least", "a", row, count)
                        if count <= told[0]:
                            desk.claim(claim)
                        else:
                            self.broken(desk, lambda: desk.claim(claim), 0, told)

    def test_great_tables_of_acyclic_models(self):
        text = own_look.CHAIN
        desk = desk_with(text, a=(("000", MOST // 2), ("101", MOST // 2)), b=(("001", MOST // 2), ("100", MOST // 2)))
        desk.claim(("alike", "a", "b"))
        desk.claim(("kept", "a", 1000))
        desk.claim(("at least", "a", "000", 0))
        self.broken(desk, lambda: desk.claim(("at least", "a", "000", 1)), 3, (0, MOST // 2))
        self.not_asked(desk, lambda: desk.claim(("joined", "a", "b")), 3, 200)
        self.broken(desk, lambda: self.put(desk, "b", (("000", MOST),)), 0, 0)
        desk.lift(0)
        self.put(desk, "b", (("000", MOST),))
        desk.claim(("at least", "b", "000", MOST))
        self.broken(desk, lambda: self.put(desk, "b", (("000", MOST - 1), ("001", 1))), 2, (MOST - 1, MOST - 1))

    def test_joined_claims_that_cannot_be_asked(self):
        for text in (own_look.CHAIN, own_look.TRIANGLE):
            # Just 200 rows are told.
            desk = desk_with(text, a=(("000", 100), ("111", 100)), b=(("000", 100), ("111", 100)))
            desk.claim(("joined", "a", "b"))
            desk = desk_with(text, a=(("000", 100), ("111", 101)), b=(("000", 100), ("111", 101)))
            desk.claim(("alike", "a", "b"))
            self.not_asked(desk, lambda: desk.claim(("joined", "a", "b")), 1, 200)
            self.not_asked(desk, lambda: desk.claim(("joined", "a", "a")), 1, 200)
            # Unlike sums are told however many rows there are.
            desk = desk_with(text, a=(("000", 201),), b=(("001", MOST),))
            self.broken(desk, lambda: desk.claim(("joined", "a", "b")), 0, 0)

    def test_joined_claims_about_many_tables(self):
        for text, counts, many in own_search.NEAR:
            joined = len(own_look.closure(text, counts))
            desk = desk_with(text, a=counts, b=counts)
            if joined > 500:
                self.not_asked(desk, lambda: desk.claim(("joined", "a", "b")), 0, 500)
            else:
                self.assertLessEqual(joined, many)
                desk.claim(("joined", "a", "b"))
        # In an acyclic model the number of joined tables does not matter.
        desk = desk_with("columns a2 b3\nlots a b", a=(("00", 60), ("02", 60), ("11", 60)))
        desk.claim(("joined", "a", "a"))

    def test_just_so_many_joined_tables(self):
        text = "columns a2 b3 c2 d2 e2\nlots a b cd ce de"
        for just, right in (((31, (24, 31, 31)), True), ((31, (25, 28, 31)), False)):
            ones, levels = just
            counts = []
            for level, many in zip("012", levels):
                some = min(many, ones)
                ones -= some
                counts += [("1" + level + "000", some), ("0" + level + "000", many - some)]
            desk = desk_with(text, a=tuple(sorted(pair for pair in counts if pair[1])))
            if right:
                desk.claim(("joined", "a", "a"))
            else:
                self.not_asked(desk, lambda: desk.claim(("joined", "a", "a")), 0, 500)

    def test_kept_and_ranges_that_cannot_be_asked(self):
        for text in own_look.OTHERS:
            row = own_look.rows(text)[0]
            desk = desk_with(text, a=((row, 13),), b=((row, 12),))
            for claim in (("kept", "a", 1), ("at least", "a", row, 0), ("at least", "a", row, MOST)):
                self.not_asked(desk, lambda: desk.claim(claim), 0, 12)
            desk.claim(("kept", "b", 11))
            desk.claim(("at least", "b", row, 12))
            self.not_asked(desk, lambda: self.put(desk, "b", ((row, 13),)), 0, 12)
            desk.lift(0)
            self.not_asked(desk, lambda: self.put(desk, "b", ((row, MOST),)), 0, 12)
        for text, counts, many in own_search.NEAR:
            desk = desk_with(text, a=counts, b=())
            row = own_look.rows(text)[0]
            for claim in (("at least", "a", row, 0), ("kept", "a", 1)):
                if many > 500:
                    self.not_asked(desk, lambda: desk.claim(claim), 0, 500)
                elif claim[0] == "at least":
                    desk.claim(claim)
            desk = desk_with(text, a=())
            desk.claim(("at least", "a", row, 0))
            if many > 500:
                self.not_asked(desk, lambda: self.put(desk, "a", counts), 0, 500)
            else:
                self.put(desk, "a", counts)

    def test_the_first_claim_that_fails_is_told(self):
        text = own_look.TRIANGLE
        desk = desk_with(text, a=(("000", 1),), b=(("000", 1),), c=(("000", 1),))
        for claim in (("kept", "c", 1000), ("at least", "a", "000", 1), ("joined", "a", "b"), ("alike", "b", "c")):
            if claim[0] == "kept":
                self.broken(desk, lambda: desk.claim(claim), 0, "000")
            else:
                desk.claim(claim)
        self.assertEqual(len(desk.claims), 3)
        self.broken(desk, lambda: self.put(desk, "a", (("001", 1),)), 0, (0, 0))
        self.not_asked(desk, lambda: self.put(desk, "a", (("000", 13),)), 0, 12)
        self.broken(desk, lambda: self.put(desk, "b", (("000", 201),)), 1, 0)
        self.broken(desk, lambda: self.put(desk, "b", (("001", 1),)), 1, 1)
        self.broken(desk, lambda: self.put(desk, "c", (("100", 1),)), 2, 0)
        self.broken(desk, lambda: self.put(desk, "c", ()), 2, 0)
        desk.lift(0)
        self.broken(desk, lambda: self.put(desk, "a", (("000", 13),)), 0, 0)
        desk.lift(0)
        desk["a"] = Table(desk.model, (("000", 13),))
        self.broken(desk, lambda: desk.claim(("alike", "a", "b")), 1, 0)
        self.not_asked(desk, lambda: desk.claim(("kept", "a", 1)), 1, 12)
        self.assertEqual(desk.claims, (("alike", "b", "c"),))

    def test_claims_hold_behind_each_change(self):
        desk = desk_with(own_look.CHAIN, a=(("000", 1), ("101", 2)), b=(("000", 1), ("101", 2)))
        desk.claim(("joined", "a", "b"))
        self.put(desk, "a", (("001", 1), ("100", 1), ("101", 1)))
        desk.lift(0)
        self.put(desk, "a", ())
        desk.undo()
        desk.undo()
        self.assertEqual(desk.claims, (("joined", "a", "b"),))
        self.broken(desk, lambda: self.put(desk, "a", ()), 0, 0)
        desk.undo()
        self.assertEqual(desk["a"], desk["b"])

    def test_the_same_claim_twice(self):
        desk = desk_with(own_look.CHAIN, a=(("000", 1),))
        for _ in range(3):
            desk.claim(("alike", "a", "a"))
        self.assertEqual(desk.claims, (("alike", "a", "a"),) * 3)
        desk.lift(1)
        self.assertEqual((len(desk.claims), desk.changes), (2, 5))


if __name__ == "__main__":
    unittest.main()
