"""What the document says, found otherwise than by the program: by trying out everything there is.

Here a model is its text, and a table is the tuple of its counts.
"""

import functools
import itertools
import random

# Models with lots in a chain, in a star, in a ring, apart, and one lot with all columns.
CHAIN = "columns a2 b2 c2\nlots ab bc"
LONG_CHAIN = "columns a2 b3 c2 d2\nlots ab bc cd"
WIDE_CHAIN = "columns a2 b2 c2 d2 e2\nlots abc bcd cde"
STAR = "columns a2 b2 c3 d2\nlots ab ac ad"
TREE = "columns a2 b2 c2 d2 e2 f2\nlots ab bc bd de df"
APART = "columns a2 b3\nlots a b"
ALL_APART = "columns b2 m2 x2\nlots b m x"
HALF_APART = "columns a2 b2 c2 d2\nlots ab cd"
# Here the letters of the pieces of two rows stand between one another.
CROSSED = "columns a2 b2 c2 d2 e2\nlots a bd ce"
SINGLE = "columns a2 b2 c2\nlots abc"
TRIANGLE = "columns a2 b2 c2\nlots ab ac bc"
SQUARE = "columns a2 b2 c2 d2\nlots ab ad bc cd"
CROSSED_SQUARE = "columns g2 k3 p2 t2\nlots gk gp kt pt"
PENTAGON = "columns a2 b2 c2 d2 e2\nlots ab ae bc cd de"
HEXAGON = "columns a2 b2 c2 d2 e2 f2\nlots ab af bc cd de ef"
TRIPLES = "columns a2 b2 c2 d2\nlots abc abd acd bcd"
TAILED = "columns a2 b2 c2 d3\nlots ab ac bc cd"
WIDE_RING = "columns a2 b2 c2 d2 e2 f2\nlots abc aef cde"
BROAD = "columns a4 b4 c4 d4\nlots a b c d"

ACYCLIC = (CHAIN, LONG_CHAIN, WIDE_CHAIN, STAR, TREE, APART, ALL_APART, HALF_APART, CROSSED, SINGLE, BROAD)
OTHERS = (TRIANGLE, SQUARE, CROSSED_SQUARE, PENTAGON, HEXAGON, TRIPLES, TAILED)


@functools.cache
def heads(text):
    """The columns, the tuple of their numbers of levels and the lots."""
    columns, lots = [line.split(" ")[1:] for line in text.split("\n")]
    return "".join(head[0] for head in columns), tuple(int(head[1]) for head in columns), lots


def rows(text):
    """All rows of a model, ascending."""
    return ["".join(row) for row in itertools.product(*["0123"[:many] for many in heads(text)[1]])]


def counts_of(listed):
    """The counts of a table with these rows, a list with each as often as it stands in it."""
    return tuple((row, listed.count(row)) for row in sorted(set(listed)))


def listed(counts):
    return [row for row, many in counts for _ in range(many)]


def sums(text, counts):
    columns, _, lots = heads(text)
    told = []
    for lot in lots:
        on = {}
        for row, many in counts:
            values = "".join(level for column, level in zip(columns, row) if column in lot)
            on[values] = on.get(values, 0) + many
        told.append(tuple(sorted(on.items())))
    return tuple(told)


def subsets(columns):
    """All sets of columns, as they are written."""
    return ["".join(part) for many in range(len(columns) + 1) for part in itertools.combinations(columns, many)]


def exchanged(text, first, second, columns):
    """Two rows behind the exchange of their levels in some columns."""
    pairs = [(high, low) if column in columns else (low, high)
             for column, low, high in zip(heads(text)[0], first, second)]
    return "".join(low for low, _ in pairs), "".join(high for _, high in pairs)


@functools.cache
def keeps(text, first, second, columns):
    """Whether the table of two rows has the same sums behind the swap."""
    behind = exchanged(text, first, second, columns)
    return sums(text, counts_of([first, second])) == sums(text, counts_of(list(behind)))


def behind(text, counts, swap):
    """The counts behind a swap, None if it cannot be done or does not keep the sums."""
    first, second, columns = swap
    left = dict(counts)
    for row, more in ((first, -1), (second, -1), *[(row, 1) for row in exchanged(text, first, second, columns)]):
        left[row] = left.get(row, 0) + more
        if left[row] < 0:
            return None
    new = tuple(sorted((row, many) for row, many in left.items() if many))
    return new if sums(text, new) == sums(text, counts) else None


def pieces(text, first, second):
    """The least sets of columns, not empty, that two rows can exchange with the sums kept."""
    unlike = "".join(column for column, low, high in zip(heads(text)[0], first, second) if low != high)
    keeping = [part for part in subsets(unlike) if part and keeps(text, first, second, part)]
    return tuple(sorted(part for part in keeping if not any(set(other) < set(part) for other in keeping)))


def swaps(text, counts):
    """All swaps of unlike rows that keep the sums and change the table, without the first column that differs."""
    found = []
    for (first, _), (second, _) in itertools.combinations(counts, 2):
        unlike = "".join(column for column, low, high in zip(heads(text)[0], first, second) if low != high)
        for columns in subsets(unlike[1:]):
            if columns and keeps(text, first, second, columns):
                found.append((first, second, columns))
    return tuple(sorted(found))


def closure(text, counts):
    """The set of the counts of all tables that are joined to one."""
    found, waiting = {counts}, [counts]
    while waiting:
        one = waiting.pop()
        for swap in swaps(text, one):
            new = behind(text, one, swap)
            if new not in found:
                found.add(new)
                waiting.append(new)
    return found


def tables(text, many):
    """The counts of all tables with so many rows."""
    return [counts_of(list(some)) for some in itertools.combinations_with_replacement(rows(text), many)]


def groups(text, many):
    """The lists of all alike tables with so many rows."""
    found = {}
    for counts in tables(text, many):
        found.setdefault(sums(text, counts), []).append(counts)
    return list(found.values())


def some_table(text, many, seed):
    """The counts of some table with so many rows."""
    chance = random.Random(seed)
    return counts_of([chance.choice(rows(text)) for _ in range(many)])


def is_hole(text, value):
    """Whether a pair of a word and a string of letters is a hole, word for word as the document says."""
    columns, _, lots = heads(text)
    word, letters = value
    if len(set(letters)) != len(letters) or not set(letters) <= set(columns):
        return False

    def common(part):
        return any(set(part) <= set(lot) for lot in lots)

    if word == "ring":
        many = len(letters)
        sides = {frozenset((letters[at], letters[(at + 1) % many])) for at in range(many)}
        return many >= 4 and all(
            common(pair) == (frozenset(pair) in sides) for pair in itertools.combinations(letters, 2))
    if word != "group" or len(letters) < 3 or list(letters) != sorted(letters) or common(letters):
        return False
    return all(common(letters.replace(letter, "")) for letter in letters)


def holes(text):
    """All holes of a model: rings read from any begin and either way round, and groups."""
    columns = heads(text)[0]
    rings = ["".join(part) for many in range(4, 7) for part in itertools.permutations(columns, many)]
    told = [("ring", letters) for letters in rings] + [("group", letters) for letters in subsets(columns)]
    return [value for value in told if is_hole(text, value)]


def has_order(text):
    """Whether the lots can be set one behind the other, each meeting those ahead within one of them."""
    lots = [frozenset(lot) for lot in heads(text)[2]]
    reached = {frozenset([lot]) for lot in lots}
    for _ in lots[1:]:
        reached = {
            ahead | {lot} for ahead in reached for lot in lots
            if lot not in ahead and any(lot & frozenset().union(*ahead) <= other for other in ahead)}
    return bool(reached)


def is_order(text, told):
    """Whether a value is an order of a model."""
    lots = heads(text)[2]
    if not isinstance(told, tuple) or sorted(triple[0] for triple in told) != lots or told[0][1:] != (None, ""):
        return False
    for at, (lot, parent, separator) in enumerate(told[1:], start=1):
        ahead = set("".join(triple[0] for triple in told[:at]))
        if separator != "".join(sorted(set(lot) & ahead)) or parent not in range(at):
            return False
        if not set(separator) <= set(told[parent][0]):
            return False
    return True


def apart(text, value):
    """The counts of the two tables that stay apart by a hole."""
    columns = heads(text)[0]
    word, letters = value
    told = ([], [])
    for levels in itertools.product((0, 1), repeat=3 if word == "ring" else len(letters)):
        at = dict(zip(letters, levels if word == "group" else levels[:2] + levels[2:] * (len(letters) - 2)))
        told[sum(levels) % 2].append("".join(str(at.get(column, 0)) for column in columns))
    return counts_of(told[0]), counts_of(told[1])


def covers(letters):
    """All rows of at most ten lots that are the lots of a model with these columns."""
    parts = [frozenset(part) for part in subsets(letters) if part]
    found = []

    def grow(chosen, at):
        if len(chosen) > 10:
            return
        if chosen and frozenset().union(*chosen) == frozenset(letters):
            found.append(sorted("".join(sorted(lot)) for lot in chosen))
        for index in range(at, len(parts)):
            if not any(parts[index] <= lot or lot <= parts[index] for lot in chosen):
                grow(chosen + [parts[index]], index + 1)

    grow([], 0)
    return found


# Values of all kinds that are neither a model nor a table nor anything else that is asked for.
KINDS = (
    None, True, False, 0, 1, -1, 10 ** 30, "", "no row", "\n", b"", b"000", [], ["000"], (), ("000",), {}, {"000": 1},
    {"000"}, frozenset(), object(), len, ValueError("000"), ((((((((((), ), ), ), ), ), ), ), ), ), [[[["000"]]]],
)
