"""Points 25 and 26: spans, slots, packed rows and these looked at."""

import inspect
import itertools
import unittest

from chancetongue import packing
from chancetongue.booktexts import read_book
from chancetongue.exprtexts import read_expression
from chancetongue.flows import flow_of
from chancetongue.looking import look
from chancetongue.packing import is_packed, packed, slots_of, spans_of, width_of
from tests.making import few_ways_book, name, num, op, source_of
from tests.slow import slow_reads, slow_sets


def book_of(*rows):
    book = read_book("\n".join(rows))
    look(book)
    return book


def book_and_flow(rows, asked="1"):
    book = book_of(*rows)
    return book, flow_of(book, asked=read_expression(asked))


def slow_spans(flow):
    """Spans by all moments of each local."""
    sets = {}
    for r, row in enumerate(flow):
        sets.setdefault(slow_sets(row), []).append(2 * r + 1)
    sets.pop(None, None)
    reads = {x: [2 * r for r, row in enumerate(flow) if x in slow_reads(row)] for x in sets}
    return {x: (min(sets[x]), max(sets[x] + reads[x])) for x in sets}


def overlap(one, other):
    return bool(set(range(one[0], one[1] + 1)) & set(range(other[0], other[1] + 1)))


def most_in_common(spans):
    last = max([span[1] for span in spans.values()], default=0)
    return max(sum(first <= moment <= end for first, end in spans.values()) for moment in range(last + 1))


def proper(spans, slots):
    """Whether slots are such as point 25 has them, as few as can be or not."""
    if set(slots.values()) != set(range(len(set(slots.values())))):
        return False
    return not any(overlap(spans[x], spans[y]) for x in slots for y in slots if x < y and slots[x] == slots[y])


def slow_packed(book, flow, slots):
    """A flow packed by these slots, straight from the words of point 26."""
    names = {x: ("slot", slots[x]) for x in slots}
    names.update({x: ("unknown", k) for k, (x, alts) in enumerate(book[0])})
    names.update({x: ("field", k) for k, x in enumerate(book[1])})
    spans = slow_spans(flow)

    def other(thing):
        if isinstance(thing, tuple):
            if thing[:1] == ("name",):
                return names[thing[1]]
            return tuple(other(part) for part in thing)
        return thing

    code = []
    for r, row in enumerate(flow):
        own = slow_sets(row)
        new = (row[0], slots[own], *[other(part) for part in row[2:]]) if own else tuple(other(part) for part in row)
        cleared = set()
        for x in slots:
            goes_on = own and own != x and slots[own] == slots[x] and spans[own][1] > 2 * r + 1
            if spans[x][1] in (2 * r, 2 * r + 1) and not goes_on:
                cleared.add(slots[x])
        code.append((new, tuple(sorted(cleared))))
    return tuple(code)


def all_slots(spans):
    """All proper slots of a few locals."""
    for chosen in itertools.product(range(len(spans)), repeat=len(spans)):
        slots = dict(zip(spans, chosen))
        if proper(spans, slots):
            yield slots


class Spans(unittest.TestCase):
    def assert_spans(self, rows, told, asked="1"):
        book, flow = book_and_flow(rows, asked)
        self.assertEqual(list(spans_of(book, flow).items()), told)

    def test_none(self):
        self.assert_spans(["fields"], [])
        self.assert_spans(["unknown a from 1 : 1", "fields f", "see a", "if f", "else", "end"], [], asked="( + a f )")

    def test_set_and_read(self):
        self.assert_spans(["fields", "set x 1", "see x"], [("x", (1, 2))])
        self.assert_spans(["fields", "see 1", "draw x from 1 : 1", "see 1", "see x", "see 1"], [("x", (3, 6))])

    def test_set_several_times(self):
        self.assert_spans(["fields", "set x 1", "see 1", "set x 2"], [("x", (1, 5))])
        self.assert_spans(["fields", "set x 1", "set x 2", "see x"], [("x", (1, 4))])
        self.assert_spans(["fields", "set x 1", "see x", "set x ( + x 1 )"], [("x", (1, 5))])

    def test_set_and_never_read(self):
        self.assert_spans(["fields", "see 1", "set x 1", "see 1"], [("x", (3, 3))])

    def test_read_in_the_row_that_sets_another(self):
        self.assert_spans(["fields", "set x 1", "set y x"], [("x", (1, 2)), ("y", (3, 3))])
        self.assert_spans(["fields", "set x 1", "draw y from x : 1 , 1 : 2", "see y"], [("x", (1, 2)), ("y", (3, 4))])

    def test_read_at_the_end(self):
        self.assert_spans(["fields", "set x 1", "see 1"], [("x", (1, 4))], asked="( not x )")

    def test_as_they_are_first_set(self):
        rows = ["fields", "set z 1", "set b 1", "set a 1", "set b 2", "see ( + a z )"]
        self.assert_spans(rows, [("z", (1, 8)), ("b", (3, 7)), ("a", (5, 8))])

    def test_on_both_sides_of_an_if(self):
        rows = ["fields", "if 1", "set x 1", "see x", "else", "set y 2", "set x 3", "end", "see x"]
        self.assert_spans(rows, [("x", (3, 10)), ("y", (7, 7))])

    def test_along_a_times(self):
        self.assert_spans(["fields", "times 3", "set x 1", "see x", "end"], [("x", (1, 10))])

    def test_some_books(self):
        for seed in range(500):
            book, asked, whole = few_ways_book(source_of(seed))
            for end in (asked, num(1)):
                flow = flow_of(book, asked=end)
                self.assertEqual(list(spans_of(book, flow).items()), list(slow_spans(flow).items()))

    def test_arguments(self):
        for word, told in (
            ("spans_of", "(book, rows)"), ("slots_of", "(book, rows)"), ("packed", "(book, rows)"),
            ("width_of", "(code)"), ("is_packed", "(book, rows, code)"),
        ):
            self.assertEqual(str(inspect.signature(getattr(packing, word))), told)
        book, flow = book_and_flow(["fields", "set x 1", "see x"])
        self.assertEqual(spans_of(rows=flow, book=book), {"x": (1, 2)})
        self.assertEqual(slots_of(rows=flow, book=book), {"x": 0})
        code = packed(rows=flow, book=book)
        self.assertEqual(width_of(code=code), 1)
        self.assertIs(is_packed(code=code, rows=flow, book=book), True)


class Slots(unittest.TestCase):
    def assert_slots(self, rows, many, asked="1"):
        book, flow = book_and_flow(rows, asked)
        slots, spans = slots_of(book, flow), slow_spans(flow)
        self.assertEqual(list(slots), list(spans))
        self.assertTrue(proper(spans, slots), slots)
        self.assertEqual(len(set(slots.values())), many)

    def test_none(self):
        book, flow = book_and_flow(["fields f", "see f"])
        self.assertEqual(slots_of(book, flow), {})

    def test_spans_that_touch_and_those_that_do_not(self):
        self.assert_slots(["fields", "set x 1", "set y x", "see y"], 1)
        self.assert_slots(["fields", "set x 1", "set y 2", "see x"], 2)
        self.assert_slots(["fields", "set x 1", "set y x", "set x y"], 2)
        self.assert_slots(["fields", "set x 1", "set y 1"], 1)
        self.assert_slots(["fields", "set x 1", "set y 1", "see ( + x y )"], 2)

    def test_never_read_between_others(self):
        self.assert_slots(["fields", "set x 1", "set y 1", "see x"], 2)
        self.assert_slots(["fields", "set x 1", "set y 1", "set z 2", "see x"], 2)

    def test_a_slot_that_is_free_again(self):
        rows = ["fields", "set x 1", "set y 2", "see x", "set z y", "see z", "set w z", "set v 1", "see ( + v w )"]
        self.assert_slots(rows, 2)

    def test_many(self):
        rows = ["fields", *[f"set {x} 1" for x in "abcdefgh"], "see ( + a h )", "see ( + ( + b c ) ( + d ( + e ( + f g ) ) ) )"]
        self.assert_slots(rows, 8)
        self.assert_slots(["fields", "set a 1", *[f"set {y} {x}" for x, y in zip("abcdefg", "bcdefgh")]], 1)

    def test_some_books(self):
        widths = set()
        for seed in range(500):
            book, asked, whole = few_ways_book(source_of(seed))
            for end in (asked, num(1)):
                flow = flow_of(book, asked=end)
                spans, slots = slow_spans(flow), slots_of(book, flow)
                self.assertEqual(list(slots), list(spans))
                self.assertTrue(proper(spans, slots))
                self.assertEqual(len(set(slots.values())), most_in_common(spans))
                widths.add(len(set(slots.values())))
                # No fewer do: of all proper slots none has fewer.
                if len(spans) <= 4:
                    self.assertEqual(min(len(set(other.values())) for other in all_slots(spans)), len(set(slots.values())))
        self.assertTrue({0, 1, 2, 3, 4} <= widths)

    def test_what_is_told_is_the_askers_own(self):
        book, flow = book_and_flow(["fields", "set x 1", "see x"])
        for asking in (spans_of, slots_of):
            first = asking(book, flow)
            kept = dict(first)
            first.clear()
            self.assertEqual(asking(book, flow), kept)


class Packed(unittest.TestCase):
    def packed_by(self, rows, asked="1"):
        book, flow = book_and_flow(rows, asked)
        return packed(book, flow)

    def test_no_locals(self):
        code = self.packed_by(["unknown a from 1 : 1", "fields f", "see ( < a f )"], asked="( not f )")
        self.assertEqual(code, (
            (("see", op("<", ("unknown", 0), ("field", 0)), 1), ()), (("end", ("not", ("field", 0))), ()),
        ))
        self.assertEqual(width_of(code), 0)
        self.assertEqual(self.packed_by(["fields"]), ((("end", num(1)), ()),))
        self.assertEqual(width_of(self.packed_by(["fields"])), 0)

    def test_names_in_each_form(self):
        code = self.packed_by([
            "unknown a from 1 : 1", "unknown b from 1 : 1", "fields f g", "draw x from b : g , ( not a ) : f",
            "if ( if x a ( + b 7 ) )", "set x ( * x g )", "else", "end",
        ], asked="( = x b )")
        a, b, f, g, x = ("unknown", 0), ("unknown", 1), ("field", 0), ("field", 1), ("slot", 0)
        self.assertEqual(code, (
            (("draw", 0, ((b, g), (("not", a), f)), 1), ()),
            (("branch", ("if", x, a, op("+", b, num(7))), 2, 3), ()),
            (("set", 0, op("*", x, g), 3), ()),
            (("end", op("=", x, b)), (0,)),
        ))
        self.assertEqual(width_of(code), 1)

    def test_cleared_where_a_span_ends(self):
        code = self.packed_by(["fields", "set x 1", "see x", "see 1"])
        self.assertEqual([cleared for row, cleared in code], [(), (0,), (), ()])

    def test_cleared_what_is_set_and_never_read(self):
        code = self.packed_by(["fields", "set x 1", "see 1"])
        self.assertEqual([cleared for row, cleared in code], [(0,), (), ()])
        code = self.packed_by(["fields", "set x 1", "see x", "set x 2"])
        self.assertEqual([cleared for row, cleared in code], [(), (), (0,), ()])

    def test_not_cleared_what_the_row_sets_for_another_that_goes_on(self):
        code = self.packed_by(["fields", "set x 1", "set y x", "see y"])
        self.assertEqual([row[1] for row, cleared in code[:2]], [0, 0])
        self.assertEqual([cleared for row, cleared in code], [(), (), (0,), ()])

    def test_cleared_once_where_both_end(self):
        code = self.packed_by(["fields", "set x 1", "set y x", "see 1"])
        self.assertEqual([row[1] for row, cleared in code[:2]], [0, 0])
        self.assertEqual([cleared for row, cleared in code], [(), (0,), (), ()])

    def test_cleared_rising(self):
        code = self.packed_by(["fields", "set z 1", "set y 1", "set x 1", "see ( + x ( + z y ) )"])
        self.assertEqual([cleared for row, cleared in code], [(), (), (), (0, 1, 2), ()])
        self.assertEqual(width_of(code), 3)

    def test_cleared_at_the_end(self):
        code = self.packed_by(["fields", "set x 1", "set y 2"], asked="( + x y )")
        self.assertEqual([cleared for row, cleared in code], [(), (), (0, 1)])

    def test_packed_by_the_slots_told(self):
        for seed in range(500):
            book, asked, whole = few_ways_book(source_of(seed))
            for end in (asked, num(1)):
                flow = flow_of(book, asked=end)
                code = packed(book, flow)
                slots = {}
                for row, (new, cleared) in zip(flow, code):
                    if slow_sets(row):
                        slots.setdefault(row[1], new[1])
                spans = slow_spans(flow)
                self.assertTrue(proper(spans, slots))
                self.assertEqual(len(set(slots.values())), most_in_common(spans))
                self.assertEqual(code, slow_packed(book, flow, slots))
                self.assertEqual(width_of(code), len(set(slots.values())))
                self.assertIs(is_packed(book, flow, code), True)
                self.assertEqual(packed(book, flow), code)

    def test_width_of_other_slots(self):
        book, flow = book_and_flow(["fields", "set x 1", "see x", "set y 2", "see y", "set z 1"])
        for slots, width in (((0, 0, 0), 1), ((0, 1, 0), 2), ((2, 0, 1), 3), ((0, 1, 2), 3)):
            self.assertEqual(width_of(slow_packed(book, flow, dict(zip("xyz", slots)))), width)


class LookedAt(unittest.TestCase):
    ROWS = ("unknown a from 1 : 1", "fields f", "set x 1", "set y f", "see ( + x y )", "set z 2", "see ( = z a )")

    def setUp(self):
        self.book, self.flow = book_and_flow(self.ROWS)
        self.spans = slow_spans(self.flow)
        self.code = packed(self.book, self.flow)

    def holds(self, code):
        return is_packed(self.book, self.flow, code)

    def by(self, *slots):
        return slow_packed(self.book, self.flow, dict(zip("xyz", slots)))

    def test_by_any_slots_that_part_what_must_be_parted(self):
        self.assertEqual(self.spans, {"x": (1, 4), "y": (3, 4), "z": (7, 8)})
        for slots in ((0, 1, 0), (0, 1, 1), (1, 0, 0), (1, 0, 1), (0, 1, 2), (2, 1, 0), (2, 0, 1), (1, 2, 0)):
            self.assertIs(self.holds(self.by(*slots)), True, slots)

    def test_two_with_a_moment_in_common_in_one_slot(self):
        for slots in ((0, 0, 0), (0, 0, 1), (1, 1, 0)):
            self.assertIs(self.holds(self.by(*slots)), False, slots)

    def test_a_slot_left_out(self):
        for slots in ((0, 2, 0), (0, 2, 2), (1, 2, 1), (1, 2, 2), (0, 1, 3), (0, 2, 3), (-1, 0, 1), (1, 2, 3), (0, 1, 10 ** 30)):
            self.assertIs(self.holds(self.by(*slots)), False, slots)

    def test_a_row_more_or_fewer(self):
        end = (("end", num(1)), ())
        for code in (
            (), self.code[:-1], self.code[1:], (*self.code, end), (*self.code, self.code[-1]), (self.code[0], *self.code),
            self.code[:2] + self.code[3:], self.code[::-1],
        ):
            self.assertIs(self.holds(code), False)

    def test_a_row_otherwise(self):
        for r in range(len(self.code)):
            row, cleared = self.code[r]
            others = [
                ("see", num(1), r + 1), ("set", 0, num(1), r + 1), ("set", 1, num(9), r + 1), ("end", num(1)), ("end", num(2)),
                ("draw", 0, ((num(1), num(1)),), r + 1), ("branch", num(1), r + 1, r + 1), self.flow[r],
            ]
            for other in others:
                if other != row:
                    code = (*self.code[:r], (other, cleared), *self.code[r + 1:])
                    self.assertIs(self.holds(code), False, (r, other))

    def test_the_flow_itself(self):
        self.assertIs(self.holds(tuple((row, ()) for row in self.flow)), False)

    def test_cleared_otherwise(self):
        for r in range(len(self.code)):
            row, cleared = self.code[r]
            for other in ((), (0,), (1,), (0, 1), (1, 0), (0, 0), (0, 1, 2), (2,), (-1,), cleared + cleared):
                if other != cleared:
                    code = (*self.code[:r], (row, other), *self.code[r + 1:])
                    self.assertIs(self.holds(code), False, (r, other))

    def test_a_local_in_two_slots(self):
        book, flow = book_and_flow(["fields", "set x 1", "see x", "set x 2", "see x"])
        code = packed(book, flow)
        other = (*code[:2], (("set", 1, num(2), 3), ()), (("see", ("slot", 1), 4), (1,)), code[4])
        self.assertIs(is_packed(book, flow, code), True)
        self.assertIs(is_packed(book, flow, other), False)

    def test_another_flow_of_the_book(self):
        flow = flow_of(self.book, asked=name("x"))
        self.assertIs(is_packed(self.book, flow, self.code), False)
        self.assertIs(is_packed(self.book, flow, packed(self.book, flow)), True)

    def test_no_locals(self):
        book, flow = book_and_flow(["fields f", "see f"])
        code = ((("see", ("field", 0), 1), ()), (("end", num(1)), ()))
        self.assertIs(is_packed(book, flow, code), True)
        self.assertIs(is_packed(book, flow, ((("see", ("slot", 0), 1), ()), (("end", num(1)), ()))), False)
        self.assertIs(is_packed(book, flow, ((("see", ("field", 0), 1), (0,)), (("end", num(1)), ()))), False)

    def spoiled(self, source, thing):
        """Packed rows with a number or a word in them made another one here and there."""
        if isinstance(thing, tuple):
            return tuple(self.spoiled(source, part) for part in thing)
        if isinstance(thing, int) and source.randrange(12) == 0:
            return max(0, thing + source.choice((-1, 1)))
        if thing in ("slot", "unknown", "field") and source.randrange(12) == 0:
            return source.choice(("slot", "unknown", "field"))
        return thing

    def test_some_books(self):
        held = refused = 0
        for seed in range(300):
            source = source_of(seed)
            book, asked, whole = few_ways_book(source, rows=12)
            flow = flow_of(book, asked=asked)
            codes = {slow_packed(book, flow, slots) for slots in all_slots(slow_spans(flow))}
            # Sorted, since the order of a set hangs on Python's hash seed, and with it what the source spoils.
            for code in sorted(codes, key=repr):
                self.assertIs(is_packed(book, flow, code), True)
                other = self.spoiled(source, code)
                self.assertIs(is_packed(book, flow, other), other in codes)
                held += other in codes
                refused += other not in codes
        self.assertGreater(held, 100)
        self.assertGreater(refused, 300)


if __name__ == "__main__":
    unittest.main()
