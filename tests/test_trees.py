"""Point 28: trees."""

import copy
import inspect
import unittest
from fractions import Fraction

from chancetongue.trees import Tree
from tests.making import source_of
from tests.slow import as_share

KEYS = ((0, 1), (2, 0), (999, 3))


def share(upper, lower=1):
    return as_share(Fraction(upper, lower))


def leaf_of(*shares):
    return dict(zip(KEYS, shares))


def height_of(many):
    return 0 if many == 0 else (many - 1).bit_length()


def above(n, many):
    return [(level, n >> level) for level in range(1, height_of(many) + 1)]


class SlowTree:
    """Leaves alone: all else is reckoned from them whenever it is asked."""

    def __init__(self, keys):
        self.keys, self.leaves = keys, []

    def product(self, numbers):
        found = {key: Fraction(1) for key in self.keys}
        for n in numbers:
            if n < len(self.leaves) and self.leaves[n] is not None:
                found = {key: found[key] * Fraction(*self.leaves[n][key]) for key in self.keys}
        return {key: as_share(found[key]) for key in self.keys}

    def nodes(self):
        places = sorted({place for n in range(len(self.leaves)) for place in above(n, len(self.leaves))})
        return [
            ((level, k), self.product(range(k * 2 ** level, (k + 1) * 2 ** level))) for level, k in places
        ]


class Trees(unittest.TestCase):
    def assert_like(self, tree, slow):
        numbers = range(len(slow.leaves))
        self.assertEqual(len(tree), len(slow.leaves))
        self.assertEqual(tree.height(), height_of(len(slow.leaves)))
        self.assertEqual(list(tree.nodes().items()), slow.nodes())
        self.assertEqual(tree.product(), slow.product(numbers))
        for n in numbers:
            self.assertEqual(tree.without(n), slow.product([other for other in numbers if other != n]))

    def test_none(self):
        tree = Tree(KEYS)
        self.assertEqual((len(tree), tree.height(), tree.nodes()), (0, 0, {}))
        self.assertEqual(tree.product(), leaf_of((1, 1), (1, 1), (1, 1)))

    def test_one(self):
        tree = Tree(KEYS)
        self.assertEqual(tree.put(leaf_of((1, 2), (0, 1), (3, 4))), [])
        self.assertEqual((len(tree), tree.height(), tree.nodes()), (1, 0, {}))
        self.assertEqual(tree.product(), leaf_of((1, 2), (0, 1), (3, 4)))
        self.assertEqual(tree.without(0), leaf_of((1, 1), (1, 1), (1, 1)))
        self.assertEqual(tree.take(0), [])
        self.assertEqual((len(tree), tree.height(), tree.nodes()), (1, 0, {}))
        self.assertEqual(tree.product(), leaf_of((1, 1), (1, 1), (1, 1)))
        self.assertEqual(tree.without(0), leaf_of((1, 1), (1, 1), (1, 1)))
        self.assertEqual(tree.change(0, leaf_of((1, 5), (1, 6), (1, 7))), [])
        self.assertEqual(tree.product(), leaf_of((1, 5), (1, 6), (1, 7)))

    def test_two(self):
        tree = Tree(KEYS)
        tree.put(leaf_of((1, 2), (0, 1), (3, 4)))
        self.assertEqual(tree.put(leaf_of((2, 3), (5, 6), (4, 9))), [(1, 0)])
        self.assertEqual(tree.nodes(), {(1, 0): leaf_of((1, 3), (0, 1), (1, 3))})
        self.assertEqual(tree.product(), leaf_of((1, 3), (0, 1), (1, 3)))
        self.assertEqual(tree.without(0), leaf_of((2, 3), (5, 6), (4, 9)))
        self.assertEqual(tree.without(1), leaf_of((1, 2), (0, 1), (3, 4)))
        self.assertEqual(tree.take(0), [(1, 0)])
        self.assertEqual(tree.nodes(), {(1, 0): leaf_of((2, 3), (5, 6), (4, 9))})
        self.assertEqual(tree.take(1), [(1, 0)])
        self.assertEqual(tree.nodes(), {(1, 0): leaf_of((1, 1), (1, 1), (1, 1))})
        self.assertEqual(tree.height(), 1)

    def test_what_a_put_remakes(self):
        tree = Tree(KEYS)
        leaf = leaf_of((1, 2), (1, 3), (1, 1))
        self.assertEqual([tree.put(leaf) for k in range(9)], [
            [], [(1, 0)], [(1, 1), (2, 0)], [(1, 1), (2, 0)], [(1, 2), (2, 1), (3, 0)], [(1, 2), (2, 1), (3, 0)],
            [(1, 3), (2, 1), (3, 0)], [(1, 3), (2, 1), (3, 0)], [(1, 4), (2, 2), (3, 1), (4, 0)],
        ])
        self.assertEqual(list(tree.nodes()), [
            (1, 0), (1, 1), (1, 2), (1, 3), (1, 4), (2, 0), (2, 1), (2, 2), (3, 0), (3, 1), (4, 0),
        ])

    def test_each_power_of_two_and_one_beyond(self):
        for many in (1, 2, 3, 4, 5, 8, 9, 16, 17, 32, 33):
            tree, slow = Tree(KEYS), SlowTree(KEYS)
            for k in range(many):
                leaf = leaf_of(share(k + 1, k + 2), share(k % 5, 7), share(2, 3))
                slow.leaves.append(leaf)
                self.assertEqual(tree.put(leaf), above(k, k + 1))
            self.assert_like(tree, slow)
            self.assertEqual(tree.change(0, leaf), above(0, many))
            self.assertEqual(tree.take(many - 1), above(many - 1, many))

    def test_a_leaf_that_is_gone(self):
        tree, slow = Tree(KEYS), SlowTree(KEYS)
        for k in range(5):
            slow.leaves.append(leaf_of(share(1, k + 2), share(k), share(1)))
            tree.put(slow.leaves[k])
        for again in range(2):
            self.assertEqual(tree.take(2), [(1, 1), (2, 0), (3, 0)])
            slow.leaves[2] = None
            self.assert_like(tree, slow)
        slow.leaves[2] = leaf_of((5, 7), (2, 1), (0, 1))
        self.assertEqual(tree.change(2, slow.leaves[2]), [(1, 1), (2, 0), (3, 0)])
        self.assert_like(tree, slow)
        for n in range(5):
            slow.leaves[n] = None
            tree.take(n)
            self.assert_like(tree, slow)
        slow.leaves.append(leaf_of((5, 7), (2, 1), (0, 1)))
        self.assertEqual(tree.put(slow.leaves[5]), [(1, 2), (2, 1), (3, 0)])
        self.assert_like(tree, slow)

    def test_without_where_a_share_is_nought(self):
        tree = Tree(KEYS)
        for shares in (((0, 1), (0, 1), (1, 2)), ((1, 3), (0, 1), (1, 5)), ((1, 7), (1, 2), (1, 1))):
            tree.put(leaf_of(*shares))
        self.assertEqual(tree.without(0), leaf_of((1, 21), (0, 1), (1, 5)))
        self.assertEqual(tree.without(1), leaf_of((0, 1), (0, 1), (1, 2)))
        self.assertEqual(tree.without(2), leaf_of((0, 1), (0, 1), (1, 10)))

    def test_keys_none(self):
        tree = Tree(())
        self.assertEqual([tree.put({}) for k in range(3)], [[], [(1, 0)], [(1, 1), (2, 0)]])
        self.assertEqual(tree.nodes(), {(1, 0): {}, (1, 1): {}, (2, 0): {}})
        self.assertEqual((tree.product(), tree.without(1), len(tree), tree.height()), ({}, {}, 3, 2))
        self.assertEqual(tree.take(1), [(1, 0), (2, 0)])

    def test_the_empty_tuple_as_key(self):
        tree = Tree([()])
        tree.put({(): (1, 2)})
        tree.put({(): (1, 3)})
        self.assertEqual((tree.product(), tree.without(0)), ({(): (1, 6)}, {(): (1, 3)}))

    def test_what_is_handed_in_is_the_askers_own(self):
        keys = list(KEYS)
        tree = Tree(keys)
        leaf, other = leaf_of((1, 2), (1, 3), (1, 4)), leaf_of((1, 5), (1, 6), (1, 7))
        kept = copy.deepcopy((keys, leaf, other))
        tree.put(leaf)
        tree.put(leaf)
        tree.change(1, other)
        tree.take(0)
        tree.change(0, leaf)
        self.assertEqual((keys, leaf, other), kept)
        told = (tree.nodes(), tree.product(), tree.without(0), tree.without(1))
        keys.clear()
        leaf[KEYS[0]] = (9, 1)
        other.clear()
        self.assertEqual((tree.nodes(), tree.product(), tree.without(0), tree.without(1)), told)
        self.assertEqual(tree.take(1), [(1, 0)])
        self.assertEqual(tree.product(), leaf_of((1, 2), (1, 3), (1, 4)))

    def test_what_is_told_is_the_askers_own(self):
        for many in (1, 2, 3):
            tree = Tree(KEYS)
            for k in range(many):
                tree.put(leaf_of((1, 2), (1, 3), (1, k + 2)))
            told = copy.deepcopy((tree.nodes(), tree.product(), tree.without(0)))
            nodes = tree.nodes()
            for node in nodes.values():
                node.clear()
            nodes.clear()
            tree.product().clear()
            tree.without(0)[KEYS[0]] = (5, 1)
            tree.without(0).clear()
            tree.take(0).append("more")
            tree.change(0, leaf_of((1, 2), (1, 3), (1, 2))).clear()
            self.assertEqual((tree.nodes(), tree.product(), tree.without(0)), told)

    def test_all_other_nodes_are_as_they_were(self):
        tree = Tree(KEYS)
        for k in range(7):
            tree.put(leaf_of((1, 2), (1, 3), (1, k + 2)))
        for n in range(7):
            ahead = tree.nodes()
            remade = tree.change(n, leaf_of((1, 11), (1, n + 12), (0, 1)))
            behind = tree.nodes()
            self.assertEqual(list(ahead), list(behind))
            self.assertEqual([place for place in ahead if ahead[place] != behind[place]], sorted(remade))

    def test_two_trees(self):
        one, other = Tree(KEYS), Tree(KEYS)
        one.put(leaf_of((1, 2), (1, 3), (1, 4)))
        self.assertEqual((len(one), len(other)), (1, 0))

    def test_some_histories(self):
        for seed in range(60):
            source = source_of(seed)
            keys = source.choice([(), KEYS[:1], KEYS, list(KEYS)])
            tree, slow = Tree(keys), SlowTree(keys)
            for deed in range(source.randrange(1, 30)):
                leaf = {key: share(source.randrange(4), source.randrange(1, 5)) for key in keys}
                kind = source.choice(("put", "put", "change", "take"))
                if kind == "put" or not slow.leaves:
                    slow.leaves.append(leaf)
                    self.assertEqual(tree.put(leaf), above(len(slow.leaves) - 1, len(slow.leaves)))
                else:
                    n = source.randrange(len(slow.leaves))
                    told = tree.change(n, leaf) if kind == "change" else tree.take(n)
                    slow.leaves[n] = leaf if kind == "change" else None
                    self.assertEqual(told, above(n, len(slow.leaves)))
                self.assert_like(tree, slow)

    def test_arguments(self):
        self.assertEqual(str(inspect.signature(Tree)), "(keys)")
        for word, told in (
            ("put", "(self, leaf)"), ("change", "(self, n, leaf)"), ("take", "(self, n)"), ("nodes", "(self)"),
            ("product", "(self)"), ("without", "(self, n)"), ("height", "(self)"), ("__len__", "(self)"),
        ):
            self.assertEqual(str(inspect.signature(getattr(Tree, word))), told)
            self.assertIn(word, vars(Tree))
        tree = Tree(keys=[()])
        tree.put(leaf={(): (1, 2)})
        tree.change(leaf={(): (1, 3)}, n=0)
        self.assertEqual(tree.product(), {(): (1, 3)})
        self.assertEqual(tree.without(n=0), {(): (1, 1)})
        self.assertEqual(tree.take(n=0), [])


if __name__ == "__main__":
    unittest.main()
