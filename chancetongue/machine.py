"""The machine: packed rows, run turn by turn."""

from chancetongue.expressions import is_so
from chancetongue.going import add_share, one_on
from chancetongue.packing import width_of
from chancetongue.shares import NONE, ONE, product_of, sum_of
from chancetongue.swapping import swapped_row


def leaf_name(word, k):
    """The name by which the machine knows a leaf of packed rows; no name of a book has a blank."""
    return f"{word} {k}"


def names_by_leaf(many_by_word):
    """A dict from the leaves of packed rows to names, as expressions; how many there are of each word is handed in."""
    return {
        (word, k): ("name", leaf_name(word, k)) for word in many_by_word for k in range(many_by_word[word])
    }


class Machine:
    """Packed rows with a table of where what stands, by values of the unknowns and a row."""

    def __init__(self, code, values, row):
        width = width_of(code)
        names = names_by_leaf({"slot": width, "unknown": len(values), "field": len(row)})
        # As rows that name their slots, packed rows go on just as those of a flow do.
        self.flow = [swapped_row(part, names, "slot") for part, cleared in code]
        self.cleared = [cleared for part, cleared in code]
        self.slot_names = [leaf_name("slot", slot) for slot in range(width)]
        self.fixed = {leaf_name("unknown", k): number for k, number in enumerate(values)}
        for k, number in enumerate(row):
            self.fixed[leaf_name("field", k)] = number
        self.states = {(0, (0,) * width): ONE}
        self.so_far = NONE
        self.most_states = 1

    def turn(self):
        """Does the least row that stands in the table for all its states; False where the table is empty."""
        if len(self.states) == 0:
            return False
        r = min([number for number, slots in self.states])
        behind = {place: self.states[place] for place in self.states if place[0] != r}
        for number, slots in self.states:
            if number == r:
                self.do_state(r, slots, behind)
        self.states = behind
        self.most_states = max(self.most_states, len(behind))
        return True

    def do_state(self, r, slots, behind):
        """Does row r for one state: adds what comes of it to the table behind, or at the end to the share so far."""
        share = self.states[(r, slots)]
        known = dict(self.fixed)
        for name, number in zip(self.slot_names, slots):
            known[name] = number
        if self.flow[r][0] == "end":
            if is_so(self.flow[r][1], known):
                self.so_far = sum_of(self.so_far, share)
            return
        for part, following, there in one_on(self.flow[r], known):
            add_share(behind, (following, self.slots_behind(r, there)), product_of(share, part))

    def slots_behind(self, r, known):
        """The slots behind row r, the cleared ones 0."""
        return tuple([0 if slot in self.cleared[r] else known[name] for slot, name in enumerate(self.slot_names)])

    def table(self):
        """A dict from (row, slots), rising, to shares."""
        return {place: self.states[place] for place in sorted(self.states)}

    def share(self):
        """The share so far of what is so at the end."""
        return self.so_far

    def widest(self):
        """How many states the table had at most, at the begin or behind a turn."""
        return self.most_states


def run_code(code, values, row):
    """The share of packed rows, run to the end."""
    machine = Machine(code, values, row)
    while machine.turn():
        pass
    return machine.share()
