"""Points [3] and [4], and the interface: trials of folders and desks."""

import random
import unittest

import own_look
from fourswaps.desks import Desk
from fourswaps.errors import Broken, InUse, InvalidNumber, InvalidSwap, NothingToUndo, UnknownName
from fourswaps.folders import Folder
from fourswaps.models import Model
from fourswaps.tables import Table

MODEL = Model(own_look.CHAIN)
TABLE = Table(MODEL, (("000", 1), ("101", 2)))
OTHER = Table(MODEL, (("001", 1), ("100", 1), ("101", 1)))


class Odd(Exception):
    pass


def folder():
    made = Folder(TABLE)
    made.put("111", 3)
    made.take("111")
    made.put("110")
    made.swap("000", "101", "c")
    return made


def desk():
    made = Desk(MODEL)
    made["one"] = TABLE
    made["other"] = OTHER
    made.claim(("alike", "one", "other"))
    return made


def shown(owner):
    if isinstance(owner, Folder):
        return owner.table, owner.counts, owner.sums, owner.many, owner.changes
    return owner.titles, [owner[name] for name in owner.titles], owner.claims, owner.changes, len(owner)


def deeds(owner):
    """Some changes, of which the number is told."""
    if isinstance(owner, Folder):
        owner.put("010", 5)
        owner.take("010", 2)
        owner.swap("001", "100", "a")
        return 3
    owner["third"] = TABLE
    owner.claim(("kept", "third", 1)) if owner["third"].many == 0 else owner.claim(("joined", "third", "one"))
    owner.lift(0)
    owner.remove("other")
    return 4


def wrong_deeds(owner):
    """Errors of the package that some deeds of this owner raise."""
    if isinstance(owner, Folder):
        return ((InvalidNumber, lambda: owner.take("000", 9)), (InvalidSwap, lambda: owner.swap("000", "111", "c")))
    return (
        (Broken, lambda: owner.__setitem__("one", Table(MODEL, ()))), (UnknownName, lambda: owner["none"]),
        (InUse, lambda: owner.remove("one")),
    )


class Trials(unittest.TestCase):
    def owners(self):
        return folder(), desk()

    def test_rows_that_end_well(self):
        for owner in self.owners():
            changes = owner.changes
            with owner.trial() as held:
                self.assertIs(held, owner)
                more = deeds(owner)
            self.assertEqual(owner.changes, changes + more)
            after = shown(owner)
            with owner.trial():
                pass
            self.assertEqual(shown(owner), after)
            for _ in range(changes + more):
                owner.undo()
            self.assertRaises(NothingToUndo, owner.undo)

    def test_rows_that_end_with_an_exception(self):
        for error in (Odd, ValueError, KeyError, RuntimeError, ZeroDivisionError, AssertionError, StopIteration,
                      KeyboardInterrupt, SystemExit, GeneratorExit):
            for owner in self.owners():
                before, thrown = shown(owner), error("why")
                with self.assertRaises(error) as caught:
                    with owner.trial():
                        deeds(owner)
                        self.assertNotEqual(shown(owner), before)
                        raise thrown
                self.assertIs(caught.exception, thrown)
                self.assertEqual(shown(owner), before)

    def test_errors_of_the_package(self):
        for at in range(3):
            for owner in self.owners():
                error, wrong = wrong_deeds(owner)[at % len(wrong_deeds(owner))]
                before = shown(owner)
                with self.assertRaises(error):
                    with owner.trial():
                        if isinstance(owner, Folder):
                            owner.put("010")
                        else:
                            owner["third"] = TABLE
                        wrong()
                self.assertEqual(shown(owner), before)

    def test_changes_from_before_that_were_taken_back_within(self):
        for owner in self.owners():
            before = shown(owner)
            with self.assertRaises(Odd):
                with owner.trial():
                    while owner.changes:
                        owner.undo()
                    self.assertRaises(NothingToUndo, owner.undo)
                    if isinstance(owner, Folder):
                        owner.put("000", 7)
                    else:
                        owner["new"] = OTHER
                    raise Odd
            self.assertEqual(shown(owner), before)
            told = [before]
            while owner.changes:
                owner.undo()
                told.append(shown(owner))
            self.assertEqual(len(told), before[-1 if isinstance(owner, Folder) else -2] + 1)

    def test_a_caught_error_within_the_rows(self):
        for owner in self.owners():
            before = shown(owner)
            with owner.trial():
                for error, wrong in wrong_deeds(owner):
                    self.assertRaises(error, wrong)
                self.assertEqual(shown(owner), before)
                deeds(owner)
            self.assertNotEqual(shown(owner), before)

    def test_an_inner_error_caught_by_the_outer_rows(self):
        for owner in self.owners():
            with owner.trial():
                if isinstance(owner, Folder):
                    owner.put("011")
                else:
                    owner["fourth"] = OTHER
                middle = shown(owner)
                with self.assertRaises(Odd):
                    with owner.trial() as held:
                        deeds(held)
                        raise Odd
                self.assertEqual(shown(owner), middle)
            self.assertEqual(shown(owner), middle)

    def test_an_inner_error_passed_on(self):
        for owner in self.owners():
            before = shown(owner)
            with self.assertRaises(Odd):
                with owner.trial():
                    deeds(owner)
                    with owner.trial():
                        owner.undo()
                        raise Odd
            self.assertEqual(shown(owner), before)

    def test_an_outer_error_behind_inner_rows_that_end_well(self):
        for owner in self.owners():
            before = shown(owner)
            with self.assertRaises(Odd):
                with owner.trial():
                    with owner.trial():
                        deeds(owner)
                    self.assertNotEqual(shown(owner), before)
                    raise Odd
            self.assertEqual(shown(owner), before)

    def test_the_same_trial_again_and_within_itself(self):
        for owner in self.owners():
            trial = owner.trial()
            first = shown(owner)
            with trial:
                owner.undo()
                second = shown(owner)
                with self.assertRaises(Odd):
                    with trial as held:
                        self.assertIs(held, owner)
                        owner.undo()
                        third = shown(owner)
                        with self.assertRaises(Odd):
                            with trial:
                                owner.undo()
                                raise Odd
                        self.assertEqual(shown(owner), third)
                        raise Odd
                self.assertEqual(shown(owner), second)
            self.assertEqual(shown(owner), second)
            self.assertNotEqual(first, second)
            with self.assertRaises(Odd):
                with trial:
                    owner.undo()
                    raise Odd
            self.assertEqual(shown(owner), second)
            with trial:
                owner.undo()
            self.assertEqual(shown(owner), third)

    def test_a_trial_begins_with_its_rows(self):
        for owner in self.owners():
            trial = owner.trial()
            owner.undo()
            before = shown(owner)
            with self.assertRaises(Odd):
                with trial:
                    owner.undo()
                    raise Odd
            self.assertEqual(shown(owner), before)

    def test_rows_left_by_return_break_and_continue(self):
        def left(owner):
            with owner.trial():
                deeds(owner)
                return "left"

        for owner in self.owners():
            changes = owner.changes
            self.assertEqual(left(owner), "left")
            self.assertGreater(owner.changes, changes)
            changes = owner.changes
            for way in ("break", "continue"):
                for _ in range(1):
                    with owner.trial():
                        owner.undo()
                        if way == "break":
                            break
                        continue
                changes -= 1
                self.assertEqual(owner.changes, changes)

    def test_drawn_trials(self):
        for seed in range(60):
            chance = random.Random(seed)
            for owner in self.owners():
                self.nest(owner, chance, [owner.trial(), owner.trial()], 0)

    def nest(self, owner, chance, trials, depth):
        before = shown(owner)
        throws = chance.random() < 0.5
        try:
            with chance.choice([*trials, owner.trial()]):
                for _ in range(chance.randint(0, 3)):
                    if owner.changes and chance.random() < 0.3:
                        owner.undo()
                    elif isinstance(owner, Folder):
                        owner.put(chance.choice(own_look.rows(own_look.CHAIN)), chance.randint(1, 3))
                    else:
                        owner[chance.choice("abc")] = OTHER
                if depth < 4:
                    self.nest(owner, chance, trials, depth + 1)
                after = shown(owner)
                if throws:
                    raise Odd
        except Odd:
            self.assertEqual(shown(owner), before)
        else:
            self.assertEqual(shown(owner), after)


class Tried(unittest.TestCase):
    def test_what_the_function_returns_is_returned(self):
        thing = object()
        for owner in (folder(), desk()):
            for value in (None, thing, 0, (), owner):
                self.assertIs(owner.tried(lambda held: value), value)
            self.assertIs(owner.tried(lambda held: held), owner)
            self.assertIs(owner.tried(action=lambda held: held), owner)
            changes = owner.changes
            more = owner.tried(deeds)
            self.assertEqual(owner.changes, changes + more)

    def test_a_function_that_raises(self):
        for owner in (folder(), desk()):
            before, thrown = shown(owner), Odd("why")

            def action(held):
                deeds(held)
                raise thrown

            for call in (lambda: owner.tried(action), lambda: owner.tried(action=action)):
                with self.assertRaises(Odd) as caught:
                    call()
                self.assertIs(caught.exception, thrown)
                self.assertEqual(shown(owner), before)

    def test_functions_within_functions(self):
        for owner in (folder(), desk()):
            before = shown(owner)

            def inner(held):
                held.undo()
                raise Odd

            def outer(held):
                held.undo()
                middle = shown(held)
                self.assertRaises(Odd, held.tried, inner)
                self.assertEqual(shown(held), middle)
                return held.changes

            self.assertEqual(owner.tried(outer), before[-1 if isinstance(owner, Folder) else -2] - 1)
            for error, wrong in wrong_deeds(folder() if isinstance(owner, Folder) else desk()):
                before = shown(owner)
                self.assertRaises(error, owner.tried, lambda held: (held.undo(), wrong()))
                self.assertEqual(shown(owner), before)


if __name__ == "__main__":
    unittest.main()
