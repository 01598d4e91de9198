"""Deeds: rows put, changed and taken, conditions set and dropped, and what each remakes."""

from chancetongue.books import is_row
from chancetongue.errors import NoAsk, NoCondition, NoRow, NotSuch
from chancetongue.standings import conditions_at, is_there, leaf_by, look_asked, look_row


def look_such(standing, row):
    """Refuses what is to be a row and isn't one."""
    if not is_row(standing.own_book, row):
        raise NotSuch()


def node_parts(nodes):
    """Nodes of a tree as parts that were remade."""
    return [("node", level, k) for level, k in nodes]


def row_anew(standing, number):
    """Reckons a row's leaf, for the first time or again; told are the parts remade."""
    leaf = leaf_by(standing, number, conditions_at(standing, number))
    if number == len(standing.tree):
        nodes = standing.tree.put(leaf)
    else:
        nodes = standing.tree.change(number, leaf)
    return [("row", number)] + node_parts(nodes)


def place_anew(standing, at):
    """Remakes what a condition at a row, or of the whole where at is None, is about; told are the parts remade."""
    return [("given",)] if at is None else row_anew(standing, at)


def put_row(standing, row):
    """Puts a row. Told by each of these deeds is what it tells, and the parts that it remade."""
    look_such(standing, row)
    number = len(standing.tree)
    standing.row_by[number] = row
    return number, row_anew(standing, number)


def change_row(standing, number, row):
    """Changes a row."""
    look_row(standing, number)
    look_such(standing, row)
    standing.row_by[number] = row
    return None, row_anew(standing, number)


def take_row(standing, number):
    """Takes a row, with all conditions at it."""
    look_row(standing, number)
    del standing.row_by[number]
    kept = standing.condition_by
    standing.condition_by = {k: kept[k] for k in kept if kept[k][1] != number}
    return None, node_parts(standing.tree.take(number))


def set_ask(standing, ask, at):
    """Sets a condition, at a row, or of the whole where at is None."""
    look_asked(standing, [ask], at)
    number = standing.many_set
    standing.many_set += 1
    standing.condition_by[number] = (ask, at)
    return number, place_anew(standing, at)


def drop_ask(standing, number):
    """Drops a condition."""
    if not is_there(number, standing.condition_by):
        raise NoCondition(number)
    at = standing.condition_by[number][1]
    del standing.condition_by[number]
    return None, place_anew(standing, at)


DEEDS = {"put": put_row, "change": change_row, "take": take_row, "set": set_ask, "drop": drop_ask}
LENGTHS = {"put": 2, "change": 3, "take": 2, "set": 3, "drop": 2}


def done(standing, deed):
    """A deed done: the deed, what stands behind it, what it tells, and the parts that it remade."""
    word, *rest = deed
    action = DEEDS[word]
    behind = standing.twin()
    told, parts = action(behind, *rest)
    return (deed, behind, told, parts)


def is_deed(thing):
    """Whether a thing has the form of a deed."""
    if not isinstance(thing, tuple) or len(thing) == 0:
        return False
    return thing[0] in LENGTHS and len(thing) == LENGTHS[thing[0]]


def done_in_order(standing, deeds):
    """Deeds done one behind the other: a list as done tells them, and the number of one that is refused, or None."""
    steps = []
    for at, deed in enumerate(deeds):
        if not is_deed(deed):
            return steps, at
        try:
            step = done(standing, deed)
        except (NotSuch, NoRow, NoCondition, NoAsk):
            return steps, at
        steps.append(step)
        standing = step[1]
    return steps, None
