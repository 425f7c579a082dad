"""What the document says of sums and ranges, found otherwise than by the program.

Here, too, a model is its text, a table is the tuple of its counts, and sums are tuples as the document writes them.
"""

import functools
import itertools
import random

import own_look

# Models with counts of few rows of them, and how many tables have the same sums: just as many as are told, or more.
BESIDE = "columns a2 b3 c2 d2 e2\nlots a b cd ce de"
NARROW = "columns a2 b2 c2 d2 e2\nlots a b cd ce de"
HALVES = "columns a2 b2 c2 d2\nlots ab c d"
NEAR = (
    (BESIDE, (("00000", 1), ("01111", 3), ("12001", 6)), 500),
    (BESIDE, (("00100", 2), ("00110", 2), ("01001", 2), ("02000", 2), ("10100", 1)), 501),
    (NARROW, (("00000", 1), ("10011", 2), ("10100", 1), ("11000", 2), ("11001", 2), ("11100", 1), ("11101", 1),
              ("11111", 1)), 500),
    (NARROW, (("00001", 3), ("00011", 1), ("01001", 4), ("10000", 1), ("11101", 1), ("11111", 1)), 501),
)
NEAR_ACYCLIC = (
    (HALVES, (("0000", 1), ("0010", 3), ("0011", 1), ("0110", 1), ("1001", 1), ("1010", 1), ("1101", 1), ("1111", 1)), 498),
    (HALVES, (("0000", 2), ("0011", 1), ("1000", 3), ("1001", 1), ("1010", 2), ("1100", 1), ("1101", 1), ("1111", 1)), 503),
)


@functools.cache
def places(text):
    """For each lot the places of its columns in a row."""
    columns, _, lots = own_look.heads(text)
    return [[columns.index(column) for column in lot] for lot in lots]


def on(row, some):
    return "".join(row[at] for at in some)


@functools.cache
def found(text, told, most=10 ** 6):
    """The set of the counts of all tables with these sums, at most so many, row by row."""
    lots = places(text)
    left = {(at, values): many for at, pairs in enumerate(told) for values, many in pairs}
    # Rows are taken by their values on the lot with the most of them, and for the same values by themselves.
    main = max(range(len(told)), key=lambda at: len(told[at]))
    keys = {row: [(at, on(row, some)) for at, some in enumerate(lots)] for row in own_look.rows(text)}
    rows = sorted(keys, key=lambda row: (keys[row][main], row))
    tables = set()

    def grow(at, chosen):
        if len(tables) >= most:
            return
        values = min((key for key, many in left.items() if many and key[0] == main), default=None)
        if values is None:
            tables.add(own_look.counts_of(chosen))
            return
        for place in range(at, len(rows)):
            some = keys[rows[place]]
            if some[main] == values and all(left.get(key) for key in some):
                for key in some:
                    left[key] -= 1
                grow(place, chosen + [rows[place]])
                for key in some:
                    left[key] += 1

    grow(0, [])
    return tables


def restricted(lot, pairs, columns):
    """What the sums on a lot tell of the columns among others."""
    told = {}
    for values, many in pairs:
        part = "".join(level for column, level in zip(lot, values) if column in columns)
        told[part] = told.get(part, 0) + many
    return told


def clash(text, told):
    """The least pair of lots that do not agree."""
    lots = own_look.heads(text)[2]
    pairs = [
        pair for pair in itertools.combinations(range(len(lots)), 2)
        if restricted(lots[pair[0]], told[pair[0]], lots[pair[1]]) != restricted(lots[pair[1]], told[pair[1]], lots[pair[0]])]
    return min(pairs, default=None)


@functools.cache
def an_order(text):
    """Some order of a model, None if it has none."""
    lots = own_look.heads(text)[2]
    for lots in itertools.permutations(lots):
        triples = [(lots[0], None, "")]
        for at in range(1, len(lots)):
            separator = "".join(sorted(set(lots[at]) & set("".join(lots[:at]))))
            parents = [index for index in range(at) if set(separator) <= set(lots[index])]
            if not parents:
                break
            triples.append((lots[at], parents[-1], separator))
        if len(triples) == len(lots):
            return tuple(triples)
    return None


def bounds(text, counts, row, triples):
    """The bounds of a count by an order, word for word as the document says."""
    columns = own_look.heads(text)[0]

    def share(part):
        some = [columns.index(column) for column in part]
        return sum(many for other, many in counts if on(other, some) == on(row, some))

    lots = [share(lot) for lot, _, _ in triples]
    return max(0, sum(lots) - sum(share(separator) for _, _, separator in triples[1:])), min(lots)


def without_table(text, value):
    """The sums without a table by a hole, word for word as the document says."""
    word, letters = value
    told = []
    for lot in own_look.heads(text)[2]:
        held = [letter for letter in letters if letter in lot]
        if word == "ring":
            rows = [{letter: "0" for letter in held}, {letter: "1" for letter in held}]
            if letters[0] in lot and letters[-1] in lot:
                rows = [{letters[-1]: "0", letters[0]: "1"}, {letters[-1]: "1", letters[0]: "0"}]
        else:
            fewer = len(letters) - 1 - len(held)
            rows = [dict(zip(held, levels)) for levels in itertools.product("01", repeat=len(held))]
            if fewer == 0:
                odd = letters[-1] not in lot
                rows = [levels for levels in rows if (list(levels.values()).count("1") % 2 == 1) == odd]
            else:
                rows = [levels for levels in rows for _ in range(2 ** (fewer - 1))]
        told.append(own_look.counts_of(["".join(levels.get(column, "0") for column in lot) for levels in rows]))
    return tuple(told)


def moved(text, told, seed, times):
    """Sums behind changes of one lot alone, which agree two by two but for what they are in that lot."""
    chance = random.Random(seed)
    lots = own_look.heads(text)[2]
    held = [dict(pairs) for pairs in told]
    for _ in range(times):
        at = chance.randrange(len(lots))
        lot, some = lots[at], held[at]
        low, high = [chance.choice([values for values, many in some.items() if many]) for _ in range(2)]
        unlike = [column for column, one, other in zip(lot, low, high) if one != other]
        moves = [column for column in unlike if chance.random() < 0.5]
        parts = [set(unlike) & set(other) for place, other in enumerate(lots) if place != at]
        if any(set(moves) & part not in (set(), part) for part in parts) or low == high:
            continue
        for values, more in ((low, -1), (high, -1)):
            some[values] += more
        for one, other in ((low, high), (high, low)):
            values = "".join(two if column in moves else one for column, one, two in zip(lot, one, other))
            some[values] = some.get(values, 0) + 1
    return tuple(tuple(sorted((values, many) for values, many in some.items() if many)) for some in held)


def whole(text, lots):
    """The text of a model with the same columns and fewer lots, None if a column is in none of them."""
    if set("".join(lots)) != set(own_look.heads(text)[0]):
        return None
    return text.split("\n")[0] + "\nlots " + " ".join(lots)


def spread(text, lots, counts):
    """The sums of a table on some lots."""
    every = own_look.heads(text)[2]
    return tuple(pairs for lot, pairs in zip(every, own_look.sums(text, counts)) if lot in lots)


def leaking(tables, most):
    """The rows that stand in all of some tables equally often, from 1 to so many times."""
    held = [dict(counts) for counts in tables]
    rows = sorted(set().union(*held))
    told = [(row, {one.get(row, 0) for one in held}) for row in rows]
    return tuple(row for row, many in told if len(many) == 1 and 1 <= min(many) <= most)
