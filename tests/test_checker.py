"""Point [16]: the checker, with right papers and spoiled ones, and whatever else is given."""

import itertools
import random
import unittest

import own_look
import own_papers
import own_search
from fourswaps.checker import accepts
from fourswaps.models import Model
from fourswaps.papers import paper_of_none, paper_of_sums
from fourswaps.tables import Table
from fourswaps.webs import hole, order

MOST = 10 ** 30
BEYOND = 10 ** 38
TWINS = "columns a2 b2 c2 d2 e2 f2\nlots ab ac bc de df ef"
WORDS = ("acyclic", "hole", "joined", "apart", "range", "reached", "table", "no table")


def joined_claim(text, seed, many, times):
    """A claim that two tables are joined, with a walk made of some swaps."""
    chance = random.Random(seed)
    one = counts = own_look.some_table(text, many, seed)
    steps = []
    for _ in range(times):
        first, second = chance.choice(own_look.listed(counts)), chance.choice(own_look.listed(counts))
        part = "".join(piece for piece in own_look.pieces(text, first, second) if chance.random() < 0.6)
        step = (first, second, "".join(sorted(part)))
        new = own_look.behind(text, counts, step)
        if new is not None:
            steps.append(step)
            counts = new
    return ("joined", text, one, counts), tuple(steps)


def right_papers():
    """Claims of all sorts with papers for them."""
    texts = (own_look.CHAIN, own_look.STAR, own_look.TREE, own_look.APART, own_look.SINGLE, own_look.WIDE_CHAIN)
    for text in texts:
        triples = own_search.an_order(text)
        yield ("acyclic", text), triples
        for counts in (own_look.some_table(text, 5, 1), ((own_look.rows(text)[0], BEYOND),)):
            for row in (counts[0][0], own_look.rows(text)[-1]):
                least, greatest = own_search.bounds(text, counts, row, triples)
                yield ("range", text, counts, row, least, greatest), triples
                yield ("range", text, counts, row, 0, greatest + 5), triples
    for text in own_look.OTHERS + (TWINS,):
        for value in own_look.holes(text)[:3]:
            yield ("hole", text), value
            even, odd = own_look.apart(text, value)
            yield ("apart", text, even, odd), (even,)
            told, paper = paper_of_none(Model(text), value)
            yield ("no table", text, own_search.without_table(text, value)), paper
    for seed, text in enumerate((own_look.CHAIN, own_look.TRIANGLE, own_look.HALF_APART, own_look.PENTAGON)):
        yield joined_claim(text, seed, 6, 4)
        counts = own_look.some_table(text, 4, seed)
        for other in sorted(own_search.found(text, own_look.sums(text, counts)))[:2]:
            yield ("reached", text, counts, counts[0][0], dict(other).get(counts[0][0], 0)), other
            yield ("table", text, own_look.sums(text, counts)), other


class Accepts(unittest.TestCase):
    def check(self, claim, paper):
        right = own_papers.accepts(claim, paper)
        self.assertIs(accepts(claim, paper), right, (claim, paper))
        return right

    def test_right_papers_by_place_and_by_name(self):
        words = set()
        for claim, paper in right_papers():
            with self.subTest(claim):
                self.assertTrue(self.check(claim, paper))
                self.assertIs(accepts(paper=paper, claim=claim), True)
            words.add(claim[0])
        self.assertEqual(words, set(WORDS))

    def test_spoiled_papers(self):
        seen = {word: [0, 0] for word in WORDS}
        for claim, paper in right_papers():
            for other in own_papers.spoiled(paper):
                seen[claim[0]][self.check(claim, other)] += 1
        self.assertTrue(all(wrong > 60 for wrong, _ in seen.values()), seen)

    def test_spoiled_claims(self):
        seen = {word: [0, 0] for word in WORDS}
        for claim, paper in right_papers():
            for other in own_papers.spoiled(claim):
                seen[claim[0]][self.check(other, paper)] += 1
        self.assertTrue(all(wrong > 60 for wrong, _ in seen.values()), seen)

    def test_truths_in_claims_are_no_integers(self):
        text = own_look.CHAIN
        counts = (("000", 1), ("101", 1))
        triples = own_search.an_order(text)
        self.assertTrue(self.check(("range", text, counts, "000", 0, 1), triples))
        for low, high in ((False, 1), (0, True), (False, True)):
            self.assertFalse(self.check(("range", text, counts, "000", low, high), triples))
        self.assertTrue(self.check(("reached", text, counts, "000", 1), counts))
        self.assertFalse(self.check(("reached", text, counts, "000", True), counts))
        self.assertFalse(self.check(("reached", text, counts, "001", False), counts))
        self.assertFalse(self.check(("reached", text, (("000", True), ("101", 1)), "101", 1), counts))
        told = own_look.sums(text, counts)
        self.assertTrue(self.check(("table", text, told), counts))
        self.assertFalse(self.check(("table", text, (((told[0][0][0], True), told[0][1]), told[1])), counts))

    def test_claims_and_papers_of_one_another(self):
        told = list(right_papers())
        for (claim, _), (_, paper) in itertools.product(told, told):
            self.check(claim, paper)

    def test_other_words(self):
        for claim, paper in right_papers():
            for word in (*WORDS, "", "Acyclic", "no  table", "notable", "alike", "kept", "at least", b"hole", None, 1, ("hole",)):
                self.check((word,) + claim[1:], paper)

    def test_values_that_are_no_claims_and_no_papers(self):
        told = list(right_papers())
        table = Table(Model(own_look.CHAIN), ())
        values = (
            *own_look.KINDS, own_look.CHAIN, Model(own_look.CHAIN), table, Table, ("hole",), (own_look.CHAIN, "hole"),
            *[(word,) for word in WORDS], *[(word, own_look.CHAIN) for word in WORDS], ("hole", Model(own_look.SQUARE)),
            *[(word, None) for word in WORDS], "hole", ["hole", own_look.SQUARE],
        )
        for value in values:
            for claim, paper in told[::5]:
                for one, other in ((value, paper), (claim, value), (value, value), (list(claim), paper), (claim, [paper])):
                    self.assertIs(accepts(one, other), own_papers.accepts(one, other))
        for one, other in itertools.product(values, values):
            self.assertIs(accepts(one, other), own_papers.accepts(one, other))

    def test_objects_that_are_equal_to_all(self):
        class Any:
            def __eq__(self, other):
                return True

            def __hash__(self):
                return 1

        class Broken:
            def __eq__(self, other):
                raise RuntimeError("not to be compared")

            __hash__ = None

        for thing in (Any(), Broken()):
            self.assertIs(accepts(thing, thing), False)
            for claim, paper in right_papers():
                for at in range(len(claim)):
                    self.assertIs(accepts(claim[:at] + (thing,) + claim[at + 1:], paper), False)
                self.assertIs(accepts(claim, thing), False)
                for at in range(len(paper)):
                    self.assertIs(accepts(claim, paper[:at] + (thing,) + paper[at + 1:]), False)
                    if type(paper[at]) is tuple and paper[at]:
                        self.assertIs(accepts(claim, paper[:at] + ((thing,) + paper[at][1:],) + paper[at + 1:]), False)
                        self.assertIs(accepts(claim, paper[:at] + (paper[at][:-1] + (thing,),) + paper[at + 1:]), False)


class Webs(unittest.TestCase):
    check = Accepts.check

    def test_all_orders_of_small_models(self):
        for text in own_look.ACYCLIC + (own_look.TRIANGLE, own_look.SQUARE, own_look.TRIPLES):
            lots = own_look.heads(text)[2]
            accepted = 0
            for some in itertools.permutations(lots):
                separators = [
                    "".join(sorted(set(lot) & set("".join(some[:at])))) for at, lot in enumerate(some)]
                for parents in itertools.product(*[range(-1, at + 1) for at in range(1, len(some))]):
                    paper = tuple(zip(some, (None,) + parents, separators))
                    accepted += self.check(("acyclic", text), paper)
            self.assertEqual(accepted > 0, own_look.has_order(text))

    def test_a_lot_twice_in_the_place_of_another_one(self):
        for text in own_look.ACYCLIC:
            triples = own_search.an_order(text)
            for at, place in itertools.permutations(range(len(triples)), 2):
                lot = triples[place][0]
                ahead = "".join(triple[0] for triple in triples[:at])
                separator = "".join(column for column in lot if column in ahead)
                for parent in range(-1, len(triples)):
                    paper = triples[:at] + ((lot, parent, separator),) + triples[at + 1:]
                    self.assertFalse(self.check(("acyclic", text), paper))
        self.assertFalse(self.check(("acyclic", own_look.CHAIN), (("ab", None, ""), ("ab", 0, "ab"))))

    def test_all_holes(self):
        for text in own_look.ACYCLIC + own_look.OTHERS + (own_look.WIDE_RING, TWINS):
            columns = own_look.heads(text)[0][:5]
            for many, word in itertools.product(range(6), ("ring", "group")):
                for part in itertools.permutations(columns, many):
                    self.check(("hole", text), (word, "".join(part)))
            told = hole(Model(text))
            self.assertIs(accepts(("hole", text), told), told is not None)


class Tables(unittest.TestCase):
    check = Accepts.check

    def test_walks_with_swaps_that_change_nothing(self):
        text = own_look.CHAIN
        one, other = (("000", 1), ("101", 2)), (("001", 1), ("100", 1), ("101", 1))
        swap = ("000", "101", "c")
        for steps, right in (
            ((swap,), True), ((("101", "000", "a"),), True), ((("000", "101", "bc"),), True), ((("101", "000", "ab"),), True),
            ((("000", "101", ""), swap), True), ((("000", "000", "a"), swap), False), ((("101", "101", "ab"), swap), True),
            ((swap, swap), False), ((), False), ((swap, ("001", "100", "c"), swap), True), ((("000", "101", "ac"), swap), True),
            ((("000", "111", "c"), swap), False), ((("000", "101", "ba"),), False), ((("000", "101", "cc"),), False),
            ((swap, ("101", "101", "a")), False),
        ):
            self.assertIs(self.check(("joined", text, one, other), steps), right)
        # There and back again, but by swaps that do not keep the sums.
        one = (("000", 1), ("111", 1))
        self.assertFalse(self.check(("joined", text, one, one), (("000", "111", "c"), ("001", "110", "c"))))
        self.assertTrue(self.check(("joined", text, one, one), (("000", "111", "abc"), ("000", "111", ""))))
        self.assertTrue(self.check(("joined", text, one, one), ()))
        self.assertTrue(self.check(("joined", text, (), ()), ()))
        self.assertFalse(self.check(("joined", text, (), one), ()))

    def test_more_steps_than_two_hundred(self):
        for text in (own_look.CHAIN, own_look.TRIANGLE, own_look.PENTAGON):
            claim, steps = joined_claim(text, 3, 260, 600)
            self.assertGreater(len(steps), 200)
            self.assertTrue(self.check(claim, steps))
            self.check(claim, steps[:-1])
            self.check(claim, steps + steps[:1])
        swap, back = ("000", "101", "c"), ("001", "100", "c")
        claim = ("joined", own_look.CHAIN, (("000", MOST), ("101", MOST)), (("000", MOST), ("101", MOST)))
        self.assertTrue(accepts(claim, (swap, back) * 2000))
        self.assertFalse(accepts(claim, (swap, back) * 2000 + (swap,)))

    def test_great_tables(self):
        text = own_look.CHAIN
        one, other = (("000", BEYOND), ("101", BEYOND + 3)), (("001", 1), ("100", 1), ("000", BEYOND - 1), ("101", BEYOND + 2))
        other = tuple(sorted(other))
        self.assertTrue(self.check(("joined", text, one, other), (("000", "101", "c"),)))
        self.assertTrue(self.check(("reached", text, one, "000", BEYOND - 1), other))
        self.assertFalse(self.check(("reached", text, one, "000", BEYOND), other))
        self.assertTrue(self.check(("reached", text, one, "111", 0), other))
        told = own_look.sums(text, one)
        self.assertTrue(self.check(("table", text, told), other))
        self.assertFalse(self.check(("table", text, told), (("000", BEYOND),)))
        triples = own_search.an_order(text)
        least, greatest = own_search.bounds(text, one, "001", triples)
        self.assertEqual((least, greatest), (0, BEYOND))
        for low, high, right in ((0, BEYOND, True), (0, BEYOND - 1, False), (1, BEYOND, False), (0, BEYOND * 9, True)):
            self.assertIs(self.check(("range", text, one, "001", low, high), triples), right)

    def test_bounds_just_beside_those_that_are_told(self):
        for text in own_look.ACYCLIC:
            triples = order(Model(text))
            for seed in range(6):
                counts = own_look.some_table(text, 20, seed)
                row = counts[seed % len(counts)][0]
                least, greatest = own_search.bounds(text, counts, row, triples)
                for low, high in itertools.product((least - 1, least, least + 1), (greatest - 1, greatest, greatest + 1)):
                    right = self.check(("range", text, counts, row, low, high), triples)
                    self.assertIs(right, 0 <= low <= least and greatest <= high)

    def test_closed_sets(self):
        text = own_look.TRIANGLE
        even, odd = own_look.apart(text, ("group", "abc"))
        foreign = (("000", 1),)
        for paper, right in (
            ((even,), True), ((odd,), False), (tuple(sorted((even, odd))), False), ((), False),
            (tuple(sorted((even, foreign))), True), (tuple(sorted((even, foreign), reverse=True)), False), ((even, even), False),
            (tuple(sorted((even, ()))), True),
        ):
            self.assertIs(self.check(("apart", text, even, odd), paper), right)
        self.assertFalse(self.check(("apart", text, even, even), (even,)))
        self.assertFalse(self.check(("apart", text, even, foreign), (even,)))
        self.assertFalse(self.check(("apart", text, even, even[:-1] + (("111", 1),)), (even,)))

    def test_sets_that_swaps_leave(self):
        for seed in range(30):
            text = (own_look.TRIANGLE, own_look.SQUARE, own_look.CHAIN)[seed % 3]
            counts = own_look.some_table(text, 6, seed)
            group = sorted(own_search.found(text, own_look.sums(text, counts)))
            part = sorted(own_look.closure(text, counts))
            for other in group:
                self.assertIs(self.check(("apart", text, counts, other), tuple(part)), other not in part)
                for at in range(len(part)):
                    self.check(("apart", text, counts, other), tuple(part[:at] + part[at + 1:]))
                self.check(("apart", text, counts, other), tuple(one for one in group if one != other))

    def test_more_tables_than_five_hundred(self):
        # Rows of two tables that stay apart, with free columns beside them, so that many tables are joined to each.
        text, beside = "columns a2 b3 c2 d2 e2\nlots a b cd ce de", ("00", "00", "11", "11", "02", "12")
        one = own_look.counts_of([ab + cde for ab, cde in zip(beside, ("000", "011", "101", "110", "000", "111"))])
        other = own_look.counts_of([ab + cde for ab, cde in zip(beside, ("001", "010", "100", "111", "000", "111"))])
        part = tuple(sorted(own_look.closure(text, one)))
        self.assertEqual(own_look.sums(text, one), own_look.sums(text, other))
        self.assertGreater(len(part), 500)
        self.assertTrue(self.check(("apart", text, one, other), part))
        self.assertFalse(accepts(("apart", text, one, other), part[:300] + part[301:]))
        self.assertFalse(accepts(("apart", text, one, part[-1]), part))
        self.assertFalse(accepts(("apart", text, other, one), part))


class Sums(unittest.TestCase):
    check = Accepts.check

    def test_weights_in_full(self):
        text = own_look.TRIANGLE
        bare = own_search.without_table(text, ("group", "abc"))
        apart, same = (("01", 1), ("10", 1)), (("00", 1), ("11", 1))
        less = tuple((values, -1) for values, _ in apart)
        for paper, right in (
            ((less, apart, apart), True), ((less, apart, ()), False), ((less, (), ()), False), (((), apart, apart), False),
            ((tuple((values, -2) for values, _ in apart), apart, apart), False), ((((("01", -1),)), apart, apart), True),
            ((less, tuple((values, 5) for values, _ in apart), apart), True), (((), (), ()), False),
            ((less, apart, (("00", 0),) + apart), False), ((less, apart[::-1], apart), False), ((less, apart), False),
            ((less, apart, apart, apart), False), ((less, same, same), False),
        ):
            self.assertIs(self.check(("no table", text, bare), paper), right)
            self.check(("no table", text, own_look.sums(text, (("000", 3), ("111", 1)))), paper)
        great = tuple(tuple((values, many * BEYOND) for values, many in pairs) for pairs in bare)
        self.assertTrue(self.check(("no table", text, great), (less, apart, apart)))

    def test_sums_that_do_not_agree_have_papers_too(self):
        told = ((("00", 1),), (("10", 1),))
        self.assertTrue(self.check(("no table", own_look.CHAIN, told), ((("00", -1), ("10", -1)), (("00", 1), ("01", 1)))))
        self.assertFalse(self.check(("no table", own_look.CHAIN, told), ((("00", -1), ("11", -1)), (("00", 1), ("01", 1)))))

    def test_drawn_weights(self):
        seen = [0, 0]
        for seed in range(1500):
            chance = random.Random(seed)
            text = chance.choice((own_look.TRIANGLE, own_look.SQUARE, own_look.TRIPLES))
            told, paper = paper_of_none(Model(text), chance.choice(own_look.holes(text)))
            for _ in range(chance.randint(1, 4)):
                at = chance.randrange(len(paper))
                held = dict(paper[at])
                held[chance.choice(own_papers.values_of(text, own_look.heads(text)[2][at]))] = chance.choice((0, 1, 1, -1, 2, 9))
                pairs = tuple(sorted((values, many) for values, many in held.items() if many))
                paper = paper[:at] + (pairs,) + paper[at + 1:]
            seen[self.check(told, paper)] += 1
            counts = own_look.some_table(text, 3, seed % 50)
            self.assertFalse(self.check(("no table", text, own_look.sums(text, counts)), paper))
        self.assertTrue(min(seen) > 100, seen)

    def test_all_sums_of_small_tables(self):
        for text in (own_look.CHAIN, own_look.TRIANGLE, own_look.APART):
            tables = own_look.tables(text, 2)
            for one, other in itertools.product(tables[::3], tables):
                self.check(("table", text, own_look.sums(text, one)), other)
            claim, paper = paper_of_sums(Model(text), own_look.sums(text, tables[0]))
            self.assertTrue(self.check(claim, paper))


if __name__ == "__main__":
    unittest.main()
