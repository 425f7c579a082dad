"""Claims for the checker and their papers, looked at otherwise than by the program, and ways to spoil them."""

import itertools
import re

import own_look
import own_search

# Put into the places of elements: none of them is right anywhere, but where it is looked at whether it is.
STRANGE = (None, "", "no", 7, -1, (), [], ("000",), (("000", 1),), b"000", {}, "ring")


def is_text(value):
    if type(value) is not str or re.fullmatch("columns( [a-z][234]){2,6}\nlots( [a-z]+){1,10}", value) is None:
        return False
    columns, levels, lots = own_look.heads(value)
    cells = 1
    for many in levels:
        cells *= many
    if list(columns) != sorted(set(columns)) or lots != sorted(set(lots)) or cells > 256:
        return False
    if any(list(lot) != sorted(set(lot)) for lot in lots) or set("".join(lots)) != set(columns):
        return False
    return not any(set(one) <= set(other) for one, other in itertools.permutations(lots, 2))


def is_integer(value, least=None):
    return type(value) is int and (least is None or value >= least)


def are_pairs(value, every, least):
    """Whether a value is an ascending tuple of pairs of one of these strings and an integer, from the least one on."""
    if type(value) is not tuple or not all(type(pair) is tuple and len(pair) == 2 for pair in value):
        return False
    if not all(type(pair[0]) is str and pair[0] in every and is_integer(pair[1], least) for pair in value):
        return False
    names = [pair[0] for pair in value]
    return names == sorted(set(names))


def is_table(text, value):
    return are_pairs(value, own_look.rows(text), 1)


def values_of(text, lot):
    columns, levels, _ = own_look.heads(text)
    return ["".join(some) for some in itertools.product(*["0123"[:levels[columns.index(one)]] for one in lot])]


def are_sums(text, value):
    lots = own_look.heads(text)[2]
    if type(value) is not tuple or len(value) != len(lots):
        return False
    if not all(are_pairs(pairs, values_of(text, lot), 1) for lot, pairs in zip(lots, value)):
        return False
    return len({sum(many for _, many in pairs) for pairs in value}) == 1


def is_row(text, value):
    return type(value) is str and value in own_look.rows(text)


def is_order(text, value):
    lots = own_look.heads(text)[2]
    if type(value) is not tuple or not all(type(triple) is tuple and len(triple) == 3 for triple in value):
        return False
    if not all(type(triple[0]) is str and type(triple[2]) is str for triple in value):
        return False
    if sorted(triple[0] for triple in value) != lots or value[0][1] is not None or value[0][2] != "":
        return False
    for at in range(1, len(value)):
        lot, parent, separator = value[at]
        ahead = "".join(triple[0] for triple in value[:at])
        if separator != "".join(column for column in lot if column in ahead):
            return False
        if type(parent) is not int or not 0 <= parent < at or not set(separator) <= set(value[parent][0]):
            return False
    return True


def is_hole(text, value):
    if type(value) is not tuple or len(value) != 2 or not all(type(part) is str for part in value):
        return False
    return own_look.is_hole(text, value)


def led(text, counts, steps):
    """The counts behind a walk, None if it is none."""
    if type(steps) is not tuple:
        return None
    for step in steps:
        if type(step) is not tuple or len(step) != 3 or not is_row(text, step[0]) or not is_row(text, step[1]):
            return None
        if type(step[2]) is not str or step[2] not in own_look.subsets(own_look.heads(text)[0]):
            return None
        counts = own_look.behind(text, counts, step)
        if counts is None:
            return None
    return counts


def apart(text, one, other, paper):
    if own_look.sums(text, one) != own_look.sums(text, other):
        return False
    if type(paper) is not tuple or not all(is_table(text, counts) for counts in paper):
        return False
    if list(paper) != sorted(set(paper)) or one not in paper or other in paper:
        return False
    return all(own_look.behind(text, counts, swap) in paper for counts in paper for swap in own_look.swaps(text, counts))


def weighs(text, told, paper):
    columns, _, lots = own_look.heads(text)
    if type(paper) is not tuple or len(paper) != len(lots):
        return False
    if not all(are_pairs(pairs, values_of(text, lot), None) for lot, pairs in zip(lots, paper)):
        return False
    if any(weight == 0 for pairs in paper for _, weight in pairs):
        return False
    held = [dict(pairs) for pairs in paper]
    for row in own_look.rows(text):
        if sum(some.get(own_search.on(row, place), 0) for some, place in zip(held, own_search.places(text))) < 0:
            return False
    return sum(some.get(values, 0) * many for some, pairs in zip(held, told) for values, many in pairs) < 0


def accepts(claim, paper):
    """Whether a claim is one for the checker and a paper is one for it, word for word as the document says."""
    if type(claim) is not tuple or len(claim) < 2 or type(claim[0]) is not str or not is_text(claim[1]):
        return False
    word, text, *told = claim
    if word == "acyclic":
        return not told and is_order(text, paper)
    if word == "hole":
        return not told and is_hole(text, paper)
    if word in ("joined", "apart"):
        if len(told) != 2 or not all(is_table(text, counts) for counts in told):
            return False
        return led(text, told[0], paper) == told[1] if word == "joined" else apart(text, *told, paper)
    if word in ("range", "reached"):
        if len(told) != (4 if word == "range" else 3) or not is_table(text, told[0]) or not is_row(text, told[1]):
            return False
        if not all(is_integer(number, 0) for number in told[2:]):
            return False
        if word == "range":
            if not is_order(text, paper):
                return False
            least, greatest = own_search.bounds(text, told[0], told[1], paper)
            return told[2] <= least and greatest <= told[3]
        if not is_table(text, paper) or own_look.sums(text, paper) != own_look.sums(text, told[0]):
            return False
        return dict(paper).get(told[1], 0) == told[2]
    if word in ("table", "no table"):
        if len(told) != 1 or not are_sums(text, told[0]):
            return False
        if word == "table":
            return is_table(text, paper) and own_look.sums(text, paper) == told[0]
        return weighs(text, told[0], paper)
    return False


def spoiled(value, depth=0):
    """A value changed at each place and depth: left out, put in, exchanged, doubled, or of another kind."""
    if type(value) is str:
        yield from (value[:at] + other + value[at + 1:] for at in range(len(value)) for other in ("", "0", "1", "3", "a", "c"))
        yield from (value + "0", value + "b", value[::-1], value.upper(), (value,), value.encode(), list(value))
    elif type(value) is int:
        yield from (value + 1, value - 1, -value, 0, value * 10 ** 31, str(value), (value,))
    elif value is None:
        yield from (0, -1, False, (), "")
    elif type(value) is tuple:
        yield from (list(value), value + value, value[::-1], value + ((),), (value,), dict(enumerate(value)))
        for at, part in enumerate(value):
            yield value[:at] + value[at + 1:]
            yield value[:at] + (part,) + value[at:]
            yield value[:at] + value[at + 1:at + 2] + (part,) + value[at + 2:]
            for other in STRANGE:
                yield value[:at] + (other,) + value[at + 1:]
                yield value[:at] + (other,) + value[at:]
            for other in spoiled(part, depth + 1):
                yield value[:at] + (other,) + value[at + 1:]
