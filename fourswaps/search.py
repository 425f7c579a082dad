"""All tables with told sums on some lots, found row by row.

The sums are needs: how often the rows are to have these values on this lot. A cell is a row with the numbers of the
needs that it meets.
"""

from fourswaps.errors import TooMany
from fourswaps.limits import MOST_FREE, MOST_TABLES
from fourswaps.models import all_sets, is_part, within, without
from fourswaps.swaps import parts_of
from fourswaps.tables import tally, values_on
from fourswaps.webs import order_of


class Block:
    """Columns on which the needs that are left are looked at alone, and whether they can be met there."""

    def __init__(self, cells, groups):
        self.cells = cells
        # For each need of the block the numbers of the needs of the whole search that are together this one.
        self.groups = groups
        self.known = {}

    def allows(self, needs):
        """Whether needs of the whole search can be met on these columns."""
        return self.can_meet(tuple([sum([needs[number] for number in group]) for group in self.groups]))

    def can_meet(self, needs):
        """Whether some cells, each any number of times, are together just what is needed on these columns."""
        if needs not in self.known:
            left = open_cells(needs, self.cells)
            behind = [needs_behind(needs, cell) for cell in scarcest(needs, left)]
            self.known[needs] = not any(needs) or self.can_meet_one(behind)
        return self.known[needs]

    def can_meet_one(self, many_needs):
        """Whether some of these needs can be met."""
        for needs in many_needs:
            if self.can_meet(needs):
                return True
        return False


def check_few_rows(many):
    """Raise TooMany for more rows than tables are looked for with."""
    if many > MOST_FREE:
        raise TooMany(MOST_FREE)


def all_tables_on(model, lots, sums):
    """The counts, ascending, of all tables of a model with these sums, which agree, on these lots, if they are few."""
    found = tables_on(model, lots, sums, MOST_TABLES)
    if len(found) > MOST_TABLES:
        raise TooMany(MOST_TABLES)
    return found


def tables_on(model, lots, sums, most):
    """The counts, ascending, of the tables of a model with these sums, which agree, on these lots.

    If they are more than `most` it tells one beyond these, whichever are found first.
    """
    keys = [(lot, values) for lot, told in zip(lots, sums) for values, _ in told]
    needs = tuple([many for told in sums for _, many in told])
    blocks = []
    for columns in parted_columns(model.columns, lots):
        parts = lots_within(columns, lots)
        if columns != model.columns and order_of(parts) is None:
            blocks.append(block_on(model, columns, parts, lots, keys))
    found = []
    grow(blocks, needs, cells_on(model, model.columns, lots, keys), (), found, most)
    return sorted([tally(rows) for rows in found])


def parted_columns(columns, lots):
    """The sets of columns into which columns fall, wherever those that are in one lot, or none, part them.

    The needs can be met if they can on each of these sets alone: what two of them share is in a lot, where they agree.
    """
    for shared in all_sets(columns):
        parts = parts_of(without(columns, shared), lots)
        if len(parts) > 1 and any([is_part(shared, lot) for lot in lots]):
            one, rest = within(columns, parts[0] + shared), without(columns, parts[0])
            return parted_columns(one, lots) + parted_columns(rest, lots)
    return [columns]


def lots_within(columns, lots):
    """What lots hold of a set of columns, without what is part of another one."""
    parts = sorted(set([within(lot, columns) for lot in lots]))
    return [part for part in parts if not any([part != other and is_part(part, other) for other in parts])]


def block_on(model, columns, parts, lots, keys):
    """The block on some columns, on which these are the parts of the lots."""
    groups = {}
    for part in parts:
        # All lots that hold this part tell the same of it, so one of them is enough.
        wholes = [lot for lot in lots if is_part(part, lot)]
        for number, (lot, values) in enumerate(keys):
            if lot == wholes[0]:
                groups.setdefault((part, values_on(lot, values, part)), []).append(number)
    return Block(cells_on(model, columns, parts, list(groups)), [groups[key] for key in groups])


def cells_on(model, columns, lots, keys):
    """The cells on some columns, all of whose values are among the keys, which are pairs of a lot and values on it."""
    numbers = {key: number for number, key in enumerate(keys)}
    found = []
    for row in sorted(set([values_on(model.columns, row, columns) for row in model.rows])):
        told = [(lot, values_on(columns, row, lot)) for lot in lots]
        if all([key in numbers for key in told]):
            found.append((row, [numbers[key] for key in told]))
    return found


def grow(blocks, needs, cells, rows, found, most):
    """Add to what is found the rows of each table that has these rows and, of the cells, just what is still needed."""
    if not any(needs):
        found.append(rows)
        return
    for block in blocks:
        if not block.allows(needs):
            return
    left = open_cells(needs, cells)
    chosen = scarcest(needs, left)
    for cell in chosen:
        grow(blocks, needs_behind(needs, cell), left, rows + (cell[0],), found, most)
        if len(found) > most:
            return
        # What is found from here on has this row no further time, so that each table is found once.
        left = [other for other in left if other != cell]


def open_cells(needs, cells):
    """The cells that meet only what is needed."""
    return [cell for cell in cells if all([needs[number] for number in cell[1]])]


def needs_behind(needs, cell):
    """What is still needed behind a cell."""
    behind = list(needs)
    for number in cell[1]:
        behind[number] = behind[number] - 1
    return tuple(behind)


def scarcest(needs, cells):
    """The cells with the needed number that fewest of them have; none if some number cannot be met by them."""
    holders, room = [[] for _ in needs], [0] * len(needs)
    for cell in cells:
        times = min([needs[number] for number in cell[1]])
        for number in cell[1]:
            holders[number].append(cell)
            room[number] = room[number] + times
    if any([room[number] < many for number, many in enumerate(needs)]):
        return []
    return min([some for some, many in zip(holders, needs) if many], key=len, default=[])
