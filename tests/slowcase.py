"""A case, and what is asked of one, written separately: nothing is kept but data, all is reckoned when it is asked."""

from fractions import Fraction

from tests.slow import as_share, slow_known, slow_unknowns, slow_value, slow_ways


class Refused(Exception):
    """What a case refuses: the name of the refusal, and what it was made of."""


def above(n, many):
    """The nodes above leaf n where so many were put, the lowest first."""
    height = (many - 1).bit_length() if many else 0
    return [(level, n >> level) for level in range(1, height + 1)]


def whole_number(thing):
    return type(thing) is int


def slow_prior(book):
    found = {}
    for share, values in slow_unknowns(book):
        found[values] = found.get(values, 0) + share
    return {values: found[values] for values in sorted(found)}


def slow_tables(book, rows, conditions, expression, at=None, given=("num", 1)):
    """For each values of the prior a dict from an expression's values to fractions; rows and conditions are dicts."""
    tables = {}
    for values, share in slow_prior(book).items():
        known = slow_known(book, values, ())
        tables[values] = {}
        if not all(slow_value(E, known) for E, place in conditions.values() if place is None):
            continue
        table = {slow_value(expression, known): share} if at is None and slow_value(given, known) else {}
        rest = share
        for number, row in rows.items():
            wanted = [E for E, place in conditions.values() if place == number]
            ended = [
                (part, there) for part, there in slow_ways(book, values, row)
                if all(slow_value(E, there) for E in wanted)
            ]
            if number == at:
                for part, there in ended:
                    if slow_value(given, there):
                        value = slow_value(expression, there)
                        table[value] = table.get(value, 0) + part
            else:
                rest *= sum(part for part, there in ended)
        if at is None:
            table = {value: part * rest / share for value, part in table.items()}
        else:
            table = {value: part * rest for value, part in table.items()}
        tables[values] = {value: part for value, part in table.items() if part}
    return tables


def slow_spread(book, rows, conditions, expression, at=None, given=("num", 1)):
    """A dict from an expression's values to fractions, rising; None where no way is left."""
    found = {}
    for table in slow_tables(book, rows, conditions, expression, at, given).values():
        for value, part in table.items():
            found[value] = found.get(value, 0) + part
    whole = sum(found.values())
    return {value: found[value] / whole for value in sorted(found)} if whole else None


def slow_answer(book, rows, conditions, ask, at=None, given=("num", 1)):
    """The share of an ask; None where no way is left."""
    spread = slow_spread(book, rows, conditions, ask, at, given)
    return None if spread is None else as_share(sum(part for value, part in spread.items() if value))


def slow_mixture(book, rows, conditions, ask, at=None):
    tables = slow_tables(book, rows, conditions, ask, at)
    whole = sum(sum(table.values()) for table in tables.values())
    found = []
    for values, table in tables.items():
        met, so = sum(table.values()), sum(part for value, part in table.items() if value)
        if met:
            found.append((values, as_share(met / whole), as_share(so / met)))
    return found


class SlowCase:
    """Rows, conditions and all that a case tells of its deeds."""

    def __init__(self, book):
        self.book, self.prior = book, list(slow_prior(book))
        self.now = ({}, {}, 0, 0)
        self.stack, self.log, self.remade, self.reckoned = [], [], [], 0
        self.ahead, self.deeds = None, 0

    def one(self, now, deed):
        """What stands behind a deed, what it tells, what it remakes, how much it reckons."""
        rows, conditions, many_rows, many_conditions = dict(now[0]), dict(now[1]), now[2], now[3]
        told, about, word = None, None, deed[0]
        if word in ("change", "take") and not (whole_number(deed[1]) and deed[1] in rows):
            raise Refused("NoRow", deed[1])
        if word == "set" and deed[2] is not None and not (whole_number(deed[2]) and deed[2] in rows):
            raise Refused("NoRow", deed[2])
        if word == "drop" and not (whole_number(deed[1]) and deed[1] in conditions):
            raise Refused("NoCondition", deed[1])
        if word in ("put", "change"):
            row = deed[-1]
            fine = type(row) is tuple and len(row) == len(self.book[1])
            if not fine or not all(whole_number(part) and 0 <= part <= 999 for part in row):
                raise Refused("NotSuch", None)
            about = many_rows if word == "put" else deed[1]
            rows[about] = row
            if word == "put":
                told, many_rows = about, many_rows + 1
        elif word == "take":
            del rows[deed[1]]
            conditions = {k: conditions[k] for k in conditions if conditions[k][1] != deed[1]}
        elif word == "set":
            about, told = deed[2], many_conditions
            conditions[told] = deed[1:]
            many_conditions += 1
        else:
            about = conditions.pop(deed[1])[1]
        node_about = deed[1] if word == "take" else about
        parts = [("given",)] if node_about is None else [("node", *place) for place in above(node_about, many_rows)]
        if about is not None:
            parts = [("row", about), *parts]
        return (rows, conditions, many_rows, many_conditions), told, parts, len(self.prior) if about is not None else 0

    def several(self, deeds, stay=False):
        """What each told, and the number of the one that is refused, or None."""
        now, done, broken = self.now, [], None
        for at, deed in enumerate(deeds):
            try:
                behind, told, parts, reckoned = self.one(now, deed)
            except Refused:
                broken = at
                break
            done.append((now, deed, told, parts, reckoned))
            now = behind
        if broken is not None and not stay:
            done = []
        self.log += [("begin", len(deeds)), *[deed for ahead, deed, told, parts, reckoned in done], ("end", len(done))]
        if broken is None or stay:
            self.keep(done, now)
        return [told for ahead, deed, told, parts, reckoned in done], broken

    def keep(self, done, now):
        self.ahead, self.now, self.deeds = self.now, now, self.deeds + 1
        self.stack += [ahead for ahead, deed, told, parts, reckoned in done]
        self.remade = [part for ahead, deed, told, parts, reckoned in done for part in parts]
        self.reckoned += sum(reckoned for ahead, deed, told, parts, reckoned in done)

    def do(self, deed):
        behind, told, parts, reckoned = self.one(self.now, deed)
        self.keep([(self.now, deed, told, parts, reckoned)], behind)
        self.log.append(deed)
        return told

    def back(self):
        if not self.stack:
            return False
        self.ahead, self.now, self.remade, self.deeds = self.now, self.stack.pop(), [], self.deeds + 1
        self.log.append(("back",))
        return True

    def leaf(self, number):
        rows, conditions = self.now[:2]
        wanted = [E for E, place in conditions.values() if place == number]
        return {
            values: as_share(sum(
                part for part, known in slow_ways(self.book, values, rows[number])
                if all(slow_value(E, known) for E in wanted)
            ))
            for values in self.prior
        }

    def nodes(self):
        rows, many = self.now[0], self.now[2]
        leaves = {number: self.leaf(number) for number in rows}
        found = {}
        for level, k in sorted({place for n in range(many) for place in above(n, many)}):
            node = {values: Fraction(1) for values in self.prior}
            for n in range(k << level, (k + 1) << level):
                for values in self.prior:
                    node[values] *= Fraction(*leaves[n][values]) if n in leaves else 1
            found[(level, k)] = {values: as_share(node[values]) for values in self.prior}
        return found

    def answer(self, ask, at=None, given=("num", 1)):
        return slow_answer(self.book, self.now[0], self.now[1], ask, at, given)

    def state(self):
        """All that a case tells, without its nodes and leaves."""
        rows, conditions = self.now[:2]
        return (
            list(rows.items()), list(conditions.items()), self.remade, self.reckoned, self.log, True, len(rows),
        )


def state_of(case):
    """The same of a case of the program."""
    return (
        list(case.rows().items()), list(case.conditions().items()), case.remade(), case.reckoned(), case.log(),
        case.is_open(), len(case),
    )


def deed_by_method(case, deed):
    """A deed, done by the method of its own."""
    word, *rest = deed
    if word == "set":
        return case.set_condition(rest[0], at=rest[1])
    return {"put": case.put, "change": case.change, "take": case.take, "drop": case.drop}[word](*rest)
