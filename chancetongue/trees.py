"""Trees of products, in which a change of a leaf remakes just the nodes above it."""

from chancetongue.shares import ONE, product_of


class Tree:
    """Leaves, dicts from keys to shares, with nodes above them that have their products."""

    def __init__(self, keys):
        self.key_list = list(keys)
        self.leaves = []
        self.made = {}

    def put(self, leaf):
        """Puts a further leaf; told are the nodes remade."""
        self.leaves.append(self.own(leaf))
        return self.remake(len(self.leaves) - 1)

    def change(self, n, leaf):
        """Changes a leaf; one that is gone is there again."""
        self.leaves[n] = self.own(leaf)
        return self.remake(n)

    def take(self, n):
        """Takes a leaf; it is gone then."""
        self.leaves[n] = None
        return self.remake(n)

    def nodes(self):
        """A dict from all (level, k), rising, to the nodes."""
        return {place: self.own(self.made[place]) for place in sorted(self.made)}

    def product(self):
        """The product of all leaves."""
        return self.own(self.part(self.height(), 0))

    def without(self, n):
        """The product of all leaves but one."""
        found = self.ones()
        k = n
        for level in range(self.height()):
            beside = k + 1 if k % 2 == 0 else k - 1
            found = self.joint(found, self.part(level, beside))
            k = k // 2
        return found

    def height(self):
        """The least number of levels under whose top there is room for all leaves ever put."""
        height = 0
        room = 1
        while room < len(self.leaves):
            room *= 2
            height += 1
        return height

    def leaf_at(self, n):
        """A leaf, or ones where it is gone."""
        return self.own(self.part(0, n))

    def twin(self):
        """Another tree of the same leaves and nodes; what is done to one changes nothing in the other."""
        other = Tree(self.key_list)
        other.leaves = list(self.leaves)
        other.made = {place: self.made[place] for place in self.made}
        return other

    def own(self, part):
        """A leaf or a node as a dict of its own."""
        return {key: part[key] for key in self.key_list}

    def ones(self):
        """The product of no leaves."""
        return {key: ONE for key in self.key_list}

    def joint(self, one, other):
        """The product of two leaves or nodes."""
        return {key: product_of(one[key], other[key]) for key in self.key_list}

    def part(self, level, k):
        """A node, or, of level 0, a leaf; ones where there is none."""
        if level > 0:
            return self.made[(level, k)] if (level, k) in self.made else self.ones()
        leaf = self.leaves[k] if k < len(self.leaves) else None
        return self.ones() if leaf is None else leaf

    def remake(self, n):
        """Remakes the nodes above a leaf, the lowest first; told is their list."""
        told = []
        k = n
        for level in range(self.height()):
            k = k // 2
            self.made[(level + 1, k)] = self.joint(self.part(level, 2 * k), self.part(level, 2 * k + 1))
            told.append((level + 1, k))
        return told

    def __len__(self):
        return len(self.leaves)
