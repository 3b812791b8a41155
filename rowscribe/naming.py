"""Names of the rows put in: which are given, which are known, and on which they hang."""

from rowscribe.errors import BadRow
from rowscribe.sums import worth_of


def check_given(rows):
    """All names that rows give, each as a key."""
    given = {}
    for row in rows:
        for name in (row.label, row.gives):
            if name in given:
                raise BadRow(row.row, "name")
            if name:
                given[name] = True
    return given


def names_in(parts):
    """The names of a sum, here among them."""
    return [part for sign, part in parts if isinstance(part, str)]


def is_known(parts, given):
    """Whether rows give all names of a sum."""
    return all(name == "here" or name in given for name in names_in(parts))


def is_early(parts, early):
    """Whether a sum hangs on no place: its names are all early, and here is never."""
    return all(name in early for name in names_in(parts))


def check_known(rows, given):
    """Refuses names that can't stand; sets what at and room come to."""
    # What names are worth that hang on no place, of the is rows so far.
    early = {}
    for row in rows:
        for parts in row.sums:
            if not is_known(parts, given):
                raise BadRow(row.row, "unknown")
        if row.op in ("at", "room"):
            if not is_early(row.sums[0], early):
                raise BadRow(row.row, "unknown")
            row.amount = worth_of(row.sums[0], 0, early)
        if row.op == "is" and is_early(row.sums[0], early):
            early[row.gives] = worth_of(row.sums[0], 0, early)


def settled_first(rows):
    """The is rows, each behind all those on whose names it hangs."""
    waiting = [row for row in rows if row.op == "is"]
    unsettled = {row.gives: True for row in waiting}
    order = []
    while waiting:
        still = []
        for row in waiting:
            if any(name in unsettled for name in names_in(row.sums[0])):
                still.append(row)
            else:
                order.append(row)
                del unsettled[row.gives]
        # Those left over, if none was settled, are just those that lead to a ring.
        if len(still) == len(waiting):
            raise BadRow(still[0].row, "ring")
        waiting = still
    return order
