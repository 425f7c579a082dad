"""Point [15] and the interface: desks, led against a record that the test keeps, and their errors."""

import itertools
import random
import unittest

import own_look
from fourswaps.desks import Desk
from fourswaps.errors import (
    Broken, InUse, InvalidClaim, InvalidIndex, InvalidName, NotAModel, NotATable, NothingToUndo, UnknownName,
)
from fourswaps.models import Model
from fourswaps.tables import Table

MOST = 10 ** 30
MODEL = Model(own_look.CHAIN)
NAMES = ("a", "b", "one", "abcdefgh", "zz")
NO_NAMES = (
    *own_look.KINDS, "A", "a1", "a b", "abcdefghi", "a" * 4000, "a\n", "\na", "_", "a_b", "`", "{", ("a",), ["a"], b"a",
    MODEL, "one ", " one", "a-b",
)


def some_table(chance, most=3):
    text = own_look.CHAIN
    return Table(Model(text), own_look.counts_of([chance.choice(own_look.rows(text)) for _ in range(chance.randint(0, most))]))


def holds(tables, claim):
    """Whether a claim of two tables or of a count holds, for the record."""
    word, name = claim[:2]
    counts = tables[name].counts
    if word in ("alike", "joined"):
        # The model is acyclic, so tables are joined if they are alike.
        return own_look.sums(own_look.CHAIN, counts) == own_look.sums(own_look.CHAIN, tables[claim[2]].counts)
    group = own_group(counts)
    if word == "kept":
        return not any(
            len({dict(one).get(row, 0) for one in group}) == 1 and many <= claim[2] for row, many in counts)
    return min(dict(one).get(claim[2], 0) for one in group) >= claim[3]


def own_group(counts):
    return [
        one for one in own_look.tables(own_look.CHAIN, sum(many for _, many in counts))
        if own_look.sums(own_look.CHAIN, one) == own_look.sums(own_look.CHAIN, counts)]


class Record(unittest.TestCase):
    """Drawn deeds, against a dict of tables and a list of claims."""

    def look(self, desk, tables, claims, changes):
        self.assertEqual((desk.titles, desk.claims), (tuple(sorted(tables)), tuple(claims)))
        self.assertEqual((desk.changes, len(desk)), (changes, len(tables)))
        self.assertIs(bool(desk), True)
        for name in NAMES:
            self.assertIs(name in desk, name in tables)
            if name in tables:
                self.assertIs(desk[name], tables[name])
            else:
                self.assertRaises(UnknownName, lambda: desk[name])

    def put(self, desk, tables, claims, chance):
        name, table = chance.choice(NAMES), some_table(chance)
        if chance.random() < 0.4 and tables:
            table = Table(Model(own_look.CHAIN), chance.choice(list(tables.values())).counts)
        new = {**tables, name: table}
        broken = [at for at, claim in enumerate(claims) if not holds(new, claim)]
        if broken:
            with self.assertRaises(Broken) as caught:
                desk[name] = table
            self.assertEqual(caught.exception.index, broken[0])
            return None
        desk[name] = table
        return new, claims

    def remove(self, desk, tables, claims, chance):
        name = chance.choice(NAMES)
        uses = [
            at for at, claim in enumerate(claims)
            if name in (claim[1:3] if claim[0] in ("alike", "joined") else claim[1:2])]
        if name not in tables:
            self.assertRaises(UnknownName, desk.remove, name)
            return None
        if uses:
            with self.assertRaises(InUse) as caught:
                desk.remove(name)
            self.assertEqual(caught.exception.index, uses[0])
            return None
        self.assertIsNone(chance.choice((lambda: desk.remove(name), lambda: desk.remove(name=name)))())
        return {one: tables[one] for one in tables if one != name}, claims

    def claim(self, desk, tables, claims, chance):
        names = chance.choice(NAMES), chance.choice(NAMES)
        claim = chance.choice((
            ("alike", *names), ("joined", *names), ("kept", names[0], chance.choice((1, 2, 1000))),
            ("at least", names[0], chance.choice(own_look.rows(own_look.CHAIN)), chance.choice((0, 0, 1, 2)))))
        for name in claim[1:3] if claim[0] in ("alike", "joined") else claim[1:2]:
            if name not in tables:
                with self.assertRaises(UnknownName) as caught:
                    desk.claim(claim)
                self.assertEqual(caught.exception.given, name)
                return None
        if not holds(tables, claim):
            with self.assertRaises(Broken) as caught:
                desk.claim(claim)
            self.assertEqual(caught.exception.index, len(claims))
            return None
        self.assertIsNone(chance.choice((lambda: desk.claim(claim), lambda: desk.claim(claim=claim)))())
        return tables, claims + [claim]

    def lift(self, desk, tables, claims, chance):
        index = chance.randint(-1, 4)
        if not 0 <= index < len(claims):
            self.assertRaises(InvalidIndex, desk.lift, index)
            return None
        self.assertIsNone(chance.choice((lambda: desk.lift(index), lambda: desk.lift(index=index)))())
        return tables, claims[:index] + claims[index + 1:]

    def test_drawn_deeds(self):
        done, refused = {}, {}
        for seed in range(60):
            chance = random.Random(seed)
            desk, tables, claims, past = Desk(Model(own_look.CHAIN)), {}, [], []
            for _ in range(50):
                deed = chance.choice((self.put, self.put, self.put, self.remove, self.claim, self.claim, self.lift))
                if past and chance.random() < 0.15:
                    self.assertIsNone(desk.undo())
                    tables, claims = past.pop()
                else:
                    new = deed(desk, tables, claims, chance)
                    counted = refused if new is None else done
                    counted[deed.__name__] = counted.get(deed.__name__, 0) + 1
                    if new is not None:
                        past.append((tables, claims))
                        tables, claims = new
                self.look(desk, tables, claims, len(past))
            while past:
                self.assertIsNone(desk.undo())
                tables, claims = past.pop()
                self.look(desk, tables, claims, len(past))
            self.assertRaises(NothingToUndo, desk.undo)
            self.look(desk, {}, [], 0)
        for counted in (done, refused):
            self.assertEqual(len(counted), 4)
            self.assertGreater(min(counted.values()), 30, (done, refused))


class Desks(unittest.TestCase):
    def test_a_new_desk(self):
        for desk in (Desk(MODEL), Desk(model=MODEL)):
            self.assertIs(desk.model, MODEL)
            self.assertEqual((desk.titles, desk.claims, desk.changes, len(desk), bool(desk)), ((), (), 0, 0, True))
            self.assertRaises(NothingToUndo, desk.undo)

    def test_items_in_the_place_of_others(self):
        desk = Desk(MODEL)
        first, second = Table(MODEL, ()), Table(Model(own_look.CHAIN), (("000", 1),))
        desk["one"] = first
        desk["one"] = second
        self.assertIs(desk["one"], second)
        desk["one"] = second
        self.assertEqual((desk.changes, desk.titles, len(desk)), (3, ("one",), 1))
        desk.undo()
        self.assertIs(desk["one"], second)
        desk.undo()
        self.assertIs(desk["one"], first)
        desk.undo()
        self.assertRaises(UnknownName, lambda: desk["one"])
        self.assertEqual(desk.changes, 0)

    def test_all_names_that_can_be(self):
        desk = Desk(MODEL)
        names = ["".join(some) for some in itertools.product("az", repeat=3)] + ["a" * many for many in range(1, 9)]
        for name in set(names):
            desk[name] = Table(MODEL, ())
        self.assertEqual(desk.titles, tuple(sorted(set(names))))
        self.assertEqual(len(desk), len(set(names)))

    def test_values_that_are_no_names_are_not_in_a_desk(self):
        class Any:
            def __eq__(self, other):
                return True

            __hash__ = None

        desk = Desk(MODEL)
        desk["a"] = Table(MODEL, ())
        for value in (*NO_NAMES, Any(), desk, Table(MODEL, ()), ("a", "a")):
            self.assertIs(value in desk, False)
        self.assertIs("a" in desk, True)
        self.assertIs("".join(["", "a"]) in desk, True)

    def test_two_desks_change_nothing_in_one_another(self):
        one, other = Desk(MODEL), Desk(MODEL)
        one["a"] = Table(MODEL, ())
        self.assertEqual((one.titles, other.titles, other.changes), (("a",), (), 0))
        other["a"] = Table(MODEL, (("000", 1),))
        other.claim(("at least", "a", "000", 1))
        self.assertEqual((one["a"].many, other["a"].many, one.claims), (0, 1, ()))
        one.remove("a")
        self.assertEqual((one.titles, other.titles), ((), ("a",)))

    def test_two_desks_are_equal_only_if_they_are_one(self):
        class Any:
            def __eq__(self, other):
                return True

            def __ne__(self, other):
                return False

        desk = Desk(MODEL)
        self.assertIs(desk == desk, True)
        self.assertIs(desk != desk, False)
        for value in (*own_look.KINDS, Desk(MODEL), MODEL, Table(MODEL, ()), Desk, Any()):
            self.assertIs(desk == value, False)
            self.assertIs(desk != value, True)
        for value in (*own_look.KINDS, Desk(MODEL), MODEL, Table(MODEL, ()), Desk):
            self.assertIs(value == desk, False)

    def test_what_is_told_cannot_be_set(self):
        desk = Desk(MODEL)
        for name in ("model", "titles", "claims", "changes"):
            with self.assertRaises(AttributeError):
                setattr(desk, name, ())

    def test_what_was_told_stays_as_it_was(self):
        desk = Desk(MODEL)
        desk["a"] = Table(MODEL, ())
        desk.claim(("alike", "a", "a"))
        titles, claims = desk.titles, desk.claims
        desk["b"] = Table(MODEL, ())
        desk.claim(("alike", "b", "a"))
        self.assertEqual((titles, claims), (("a",), (("alike", "a", "a"),)))


class Errors(unittest.TestCase):
    def setUp(self):
        self.desk = Desk(MODEL)
        self.desk["a"] = Table(MODEL, (("000", 1), ("101", 2)))
        self.desk["b"] = Table(MODEL, (("001", 1), ("100", 1), ("101", 1)))
        self.desk["c"] = Table(MODEL, ())
        self.desk.claim(("at least", "c", "000", 0))
        self.desk.claim(("alike", "a", "b"))
        self.desk.claim(("joined", "b", "a"))
        self.before = self.shown()

    def shown(self):
        desk = self.desk
        return desk.titles, [desk[name] for name in desk.titles], desk.claims, desk.changes, len(desk)

    def check(self, error, given, *calls):
        for call in calls:
            with self.assertRaises(error) as caught:
                call()
            self.assertIs(caught.exception.given, given)
            self.assertEqual(self.shown(), self.before)

    def put(self, name, table):
        self.desk[name] = table

    def test_what_is_no_model(self):
        for value in (*own_look.KINDS, own_look.CHAIN, Table(MODEL, ()), Model, (MODEL,), self.desk):
            self.check(NotAModel, value, lambda: Desk(value), lambda: Desk(model=value))

    def test_names_ahead_of_tables(self):
        table, foreign = Table(MODEL, ()), Table(Model(own_look.TRIANGLE), ())
        for value, told in itertools.product(NO_NAMES, (table, foreign, None, "000", ())):
            self.check(InvalidName, value, lambda: self.put(value, told))

    def test_tables_of_this_model_alone(self):
        for name in ("a", "new"):
            for text in (own_look.TRIANGLE, own_look.SINGLE, own_look.ALL_APART, "columns a2 b2 c3\nlots ab bc", own_look.STAR):
                table = Table(Model(text), ())
                self.check(NotATable, table, lambda: self.put(name, table))
            for value in (*own_look.KINDS, MODEL, (("000", 1),), Table, (self.desk["a"],), self.desk, "a"):
                self.check(NotATable, value, lambda: self.put(name, value))

    def test_names_that_the_desk_has_not(self):
        for value in (*NO_NAMES, "d", "aa", "ab", "abcdefgh", self.desk):
            self.check(UnknownName, value, lambda: self.desk[value], lambda: self.desk.remove(value),
                       lambda: self.desk.remove(name=value))

    def test_names_in_use(self):
        for name, index in (("a", 1), ("b", 1), ("c", 0)):
            for call in (lambda: self.desk.remove(name), lambda: self.desk.remove(name=name)):
                with self.assertRaises(InUse) as caught:
                    call()
                self.assertEqual(caught.exception.index, index)
                self.assertEqual(self.shown(), self.before)
        self.desk.lift(1)
        for name, index in (("a", 1), ("b", 1), ("c", 0)):
            with self.assertRaises(InUse) as caught:
                self.desk.remove(name)
            self.assertEqual(caught.exception.index, index)
        self.desk.lift(1)
        self.desk.remove("a")
        self.desk.remove("b")
        self.desk.lift(0)
        self.desk.remove("c")
        self.assertEqual((self.desk.titles, self.desk.claims), ((), ()))
        for _ in range(6):
            self.desk.undo()
        self.assertEqual(self.shown(), self.before)

    def test_a_name_in_use_on_its_own(self):
        self.desk["d"] = Table(MODEL, (("000", 1), ("101", 1)))
        self.desk.claim(("kept", "d", 1))
        with self.assertRaises(InUse) as caught:
            self.desk.remove("d")
        self.assertEqual(caught.exception.index, 3)

    def test_what_is_no_claim(self):
        values = (
            *own_look.KINDS, "alike", ("alike",), ("alike", "a"), ("alike", "a", "b", "c"), ["alike", "a", "b"], ("joined",),
            ("joined", "a"), ("joined", "a", "b", 1), ("like", "a", "b"), ("Alike", "a", "b"), ("", "a", "b"), (b"alike", "a", "b"),
            (None, "a", "b"), (1, "a", "b"), (("alike",), "a", "b"), (["alike"], "a", "b"), ("kept", "a"), ("kept", "a", 1, 1),
            ("at least", "a"), ("at least", "a", "000"), ("at least", "a", "000", 1, 1), ("at  least", "a", "000", 1),
            ("atleast", "a", "000", 1), ("kept", "a", 0), ("kept", "a", 1001), ("kept", "a", True), ("kept", "a", None),
            ("kept", "a", "1"), ("kept", "a", -1), ("kept", "a", MOST), ("kept", "a", "b"), ("at least", "a", "00", 1),
            ("at least", "a", "002", 1), ("at least", "a", None, 1), ("at least", "a", ("0", "0", "0"), 1),
            ("at least", "a", b"000", 1), ("at least", "a", ["000"], 1), ("at least", "a", "000", -1),
            ("at least", "a", "000", MOST + 1), ("at least", "a", "000", True), ("at least", "a", "000", False),
            ("at least", "a", "000", None), ("at least", "a", "000", "1"), ("at least", "a", 1, "000"), ("acyclic", MODEL.text),
            ("hole", "a", "b"), ("range", "a", "000", 0, 1), ("apart", "a", "b"), (("alike", "a", "b"),), self.desk, MODEL,
        )
        for value in values:
            self.check(InvalidClaim, value, lambda: self.desk.claim(value), lambda: self.desk.claim(claim=value))

    def test_objects_that_are_equal_to_all(self):
        class Any:
            def __eq__(self, other):
                return True

        for claim in ((Any(), "a", "b"), (Any(), "a", "000", 0), ("kept", "a", Any()), ("at least", "a", Any(), 0), Any()):
            self.check(InvalidClaim, claim, lambda: self.desk.claim(claim))
        thing = Any()
        self.check(UnknownName, thing, lambda: self.desk.claim(("alike", thing, "b")), lambda: self.desk[thing])
        self.check(InvalidName, thing, lambda: self.put(thing, Table(MODEL, ())))
        self.check(InvalidIndex, thing, lambda: self.desk.lift(thing))

    def test_claims_ahead_of_names(self):
        for name in ("none", None, 5, ["a"], ("a",)):
            for value in (("kept", name, 0), ("kept", name, True), ("at least", name, "2", 1), ("at least", name, "000", -1),
                          ("alike", name), ("like", name, name)):
                self.check(InvalidClaim, value, lambda: self.desk.claim(value))

    def test_names_of_claims(self):
        for name in (*NO_NAMES, "none", "d"):
            for claim in (("kept", name, 1), ("at least", name, "000", 0), ("alike", name, "b"), ("joined", name, "b"),
                          ("alike", name, "none"), ("joined", name, None), ("alike", "a", name), ("joined", "b", name)):
                self.check(UnknownName, name, lambda: self.desk.claim(claim), lambda: self.desk.claim(claim=claim))

    def test_indexes(self):
        for value in (*[one for one in own_look.KINDS if type(one) is not int], True, False, 3, 4, -1, -3, MOST, "0", (0,)):
            self.check(InvalidIndex, value, lambda: self.desk.lift(value), lambda: self.desk.lift(index=value))
        for value in (0, 1, True):
            desk = Desk(MODEL)
            with self.assertRaises(InvalidIndex) as caught:
                desk.lift(value)
            self.assertIs(caught.exception.given, value)

    def test_nothing_to_undo(self):
        while self.desk.changes:
            self.desk.undo()
        for _ in range(3):
            self.assertRaises(NothingToUndo, self.desk.undo)
            self.assertEqual((self.desk.titles, self.desk.claims, self.desk.changes), ((), (), 0))

    def test_refused_deeds_can_be_followed_by_others(self):
        self.check(InvalidName, "A", lambda: self.put("A", None))
        self.desk["d"] = self.desk["a"]
        self.desk.claim(("alike", "d", "b"))
        self.assertEqual(self.desk.changes, self.before[3] + 2)


if __name__ == "__main__":
    unittest.main()
