"""Packed rows: a flow whose locals share few slots."""

from chancetongue.flows import read_by, set_by
from chancetongue.swapping import swapped_row


def spans_of(book, rows):
    """A dict from all locals of a flow, as they are first set, to the first and the last moment of their spans."""
    spans = {}
    for r, row in enumerate(rows):
        # Unknowns and fields are never set, so they never get a span.
        for name in read_by(row):
            if name in spans:
                spans[name] = (spans[name][0], 2 * r)
        name = set_by(row)
        if name is not None:
            first = spans[name][0] if name in spans else 2 * r + 1
            spans[name] = (first, 2 * r + 1)
    return spans


def slots_of(book, rows):
    """A dict from all locals of a flow, as they are first set, to their slots, as few as can be."""
    spans = spans_of(book, rows)
    slots = {}
    taken_to = []
    # Spans come by their first moments: a further slot is taken only where all others are in use at that moment.
    for name in spans:
        first, last = spans[name]
        free = [slot for slot, end in enumerate(taken_to) if end < first]
        if len(free) == 0:
            free.append(len(taken_to))
            taken_to.append(last)
        slots[name] = free[0]
        taken_to[free[0]] = last
    return slots


def cleared_at(r, row, spans, slots):
    """The slots that row r clears, rising."""
    ended = [name for name in spans if spans[name][1] // 2 == r]
    name = set_by(row)
    # A slot that is set here for one whose span goes on keeps what it is set to.
    kept = None if name is None or name in ended else slots[name]
    return tuple(sorted(set([slots[one] for one in ended if slots[one] != kept])))


def leaves_by(book, slots):
    """A dict from names, as expressions, to what stands for them in packed rows."""
    leaves = {("name", name): ("slot", slots[name]) for name in slots}
    for k, (name, alts) in enumerate(book[0]):
        leaves[("name", name)] = ("unknown", k)
    for k, name in enumerate(book[1]):
        leaves[("name", name)] = ("field", k)
    return leaves


def packed_by(book, rows, slots):
    """A flow packed by these slots."""
    leaves = leaves_by(book, slots)
    spans = spans_of(book, rows)
    return tuple([
        (swapped_row(row, leaves, "name"), cleared_at(r, row, spans, slots)) for r, row in enumerate(rows)
    ])


def packed(book, rows):
    """A flow packed into as few slots as can be: a tuple of (row, cleared)."""
    return packed_by(book, rows, slots_of(book, rows))


def width_of(code):
    """How many slots packed rows have."""
    slots = [set_by(row) for row, cleared in code]
    return max([slot + 1 for slot in slots if slot is not None], default=0)


def slots_in(rows, code):
    """A dict from a flow's locals to the slots in which packed rows first set them, or None where they don't."""
    slots = {}
    for row, (other, cleared) in zip(rows, code):
        if other[0] != row[0]:
            return None
        name = set_by(row)
        if name is not None and name not in slots:
            slots[name] = other[1]
    return slots


def are_parted(spans, slots):
    """Whether slots go from 0 on without a gap, and are unlike where spans have a moment in common."""
    used = [slots[name] for name in slots]
    if not all([slot in used for slot in range(len(set(used)))]):
        return False
    for one in spans:
        for other in spans:
            # Of two spans with a moment in common one begins within the other.
            within = spans[one][0] <= spans[other][0] <= spans[one][1]
            if one != other and slots[one] == slots[other] and within:
                return False
    return True


def is_packed(book, rows, code):
    """Whether packed rows are a flow packed by some slots, as few as can be or not."""
    if len(code) != len(rows):
        return False
    slots = slots_in(rows, code)
    if slots is None or not are_parted(spans_of(book, rows), slots):
        return False
    return code == packed_by(book, rows, slots)
