"""Points 29, 30: what a store holds and feeds, and how long it stands."""

import random
import unittest

from warnloop.stores import Store

LOADS = (("panel", 5), ("bells", 10), ("doors", 0), ("lamp", 3))
EIGHT = tuple(("abcdefgh"[at], draw) for at, draw in enumerate((1, 0, 2, 3, 0, 5, 8, 13)))
NAMES = ("panel", "bells", "doors", "lamp")


def drained(store, many):
    """The store behind so many beats without mains, its loads all kept again."""
    for _ in range(many):
        store.beat(False)
    return store


def count_by_beats(full, gain, loads, kept, ahead):
    """How many beats without mains feed all kept loads, by trying; ahead are the beats with which one came so far."""
    store = Store(full, gain, loads)
    store.keep(kept)
    for mains in ahead:
        store.beat(mains)
    many = 0
    while len(store.beat(False)) == kept:
        many += 1
    return many


class Beats(unittest.TestCase):
    def test_at_first(self):
        for full in (0, 1, 17, 999_999, 1_000_000):
            self.assertEqual(Store(full, 4, LOADS).held(), full)

    def test_with_mains_all_kept_are_fed(self):
        for full in (0, 4, 1_000_000):
            store = Store(full, 0, LOADS)
            self.assertEqual([store.beat(True) for _ in range(3)], [NAMES] * 3)
            self.assertEqual(store.held(), full)

    def test_up_to_full_and_not_beyond(self):
        store = Store(100, 7, (("a", 18),))
        for _ in range(5):
            store.beat(False)
        self.assertEqual(store.held(), 10)
        told = []
        for _ in range(15):
            self.assertEqual(store.beat(True), ("a",))
            told.append(store.held())
        self.assertEqual(told, [17, 24, 31, 38, 45, 52, 59, 66, 73, 80, 87, 94, 100, 100, 100])

    def test_just_to_full(self):
        store = Store(20, 5, (("a", 10),))
        store.beat(False)
        self.assertEqual([(store.beat(True), store.held()) for _ in range(3)],
                         [(("a",), 15), (("a",), 20), (("a",), 20)])

    def test_greatest_of_all(self):
        loads = tuple((name, 10_000) for name in "abcdefgh")
        store = Store(1_000_000, 10_000, loads)
        self.assertEqual(store.stands(), 12)
        for left in range(12, 0, -1):
            self.assertEqual(store.stands(), left)
            self.assertEqual(store.beat(False), tuple("abcdefgh"))
        self.assertEqual((store.held(), store.stands()), (40_000, 0))
        self.assertEqual(store.beat(False), tuple("abcd"))
        self.assertEqual((store.held(), store.beat(False)), (0, ()))
        store.beat(True)
        self.assertEqual(store.held(), 10_000)
        self.assertEqual((store.beat(False), store.held()), (("a",), 0))

    def test_gain_and_full_of_nought(self):
        store = Store(0, 10_000, (("a", 1), ("b", 0)))
        self.assertEqual([store.beat(mains) for mains in (True, False, True)], [("a", "b"), (), ("a", "b")])
        self.assertEqual((store.held(), store.stands()), (0, 0))
        store = Store(5, 0, (("a", 3),))
        self.assertEqual([store.beat(mains) for mains in (False, True, False, True)], [("a",), ("a",), (), ("a",)])
        self.assertEqual(store.held(), 2)

    def test_what_is_held_just_feeds_so_many(self):
        for full, fed, left in (
            (18, NAMES, 0), (19, NAMES, 1), (17, NAMES[:3], 2), (15, NAMES[:3], 0), (14, NAMES[:1], 9),
            (5, NAMES[:1], 0), (4, (), 4), (0, (), 0),
        ):
            store = Store(full, 1, LOADS)
            self.assertEqual((store.beat(False), store.held()), (fed, left), full)

    def test_a_load_that_draws_nothing_behind_one_that_is_not_fed(self):
        store = Store(4, 0, (("a", 0), ("b", 5), ("c", 0), ("d", 1)))
        self.assertEqual((store.beat(False), store.held()), (("a",), 4))

    def test_loads_that_draw_nothing(self):
        store = Store(0, 0, (("a", 0), ("b", 0)))
        self.assertEqual([store.beat(False) for _ in range(3)], [("a", "b")] * 3)
        self.assertEqual((store.held(), store.stands()), (0, None))

    def test_one_load_and_eight(self):
        store = Store(7, 0, (("lonely", 3),))
        self.assertEqual([store.beat(False) for _ in range(3)], [("lonely",), ("lonely",), ()])
        self.assertEqual(store.held(), 1)
        store = Store(32 + 11, 0, EIGHT)
        self.assertEqual(store.beat(False), tuple("abcdefgh"))
        self.assertEqual((store.beat(False), store.held()), (tuple("abcdef"), 0))

    def test_told_is_a_tuple(self):
        store = Store(10, 0, LOADS)
        for mains in (True, False, False, False):
            self.assertIsInstance(store.beat(mains), tuple)


class Kept(unittest.TestCase):
    def test_none_some_all_and_anew(self):
        store = Store(100, 1, LOADS)
        self.assertIsNone(store.keep(0))
        self.assertEqual([store.beat(False), store.beat(True), store.held()], [(), (), 100])
        store.keep(1)
        self.assertEqual([store.beat(True), store.beat(False), store.held()], [NAMES[:1], NAMES[:1], 95])
        store.keep(3)
        self.assertEqual([store.beat(False), store.held()], [NAMES[:3], 80])
        store.keep(4)
        self.assertEqual([store.beat(False), store.held()], [NAMES, 62])
        store.keep(2)
        self.assertEqual([store.beat(False), store.beat(True), store.held()], [NAMES[:2], NAMES[:2], 48])

    def test_what_is_not_kept_draws_nothing(self):
        store = Store(6, 0, (("a", 3), ("b", 100)))
        store.keep(1)
        self.assertEqual(store.stands(), 2)
        self.assertEqual([store.beat(False) for _ in range(3)], [("a",), ("a",), ()])

    def test_keeping_changes_nothing_else(self):
        store = drained(Store(100, 1, LOADS), 2)
        for many in (0, 4, 2, 3, 1):
            store.keep(many)
            self.assertEqual(store.held(), 64)


class Stands(unittest.TestCase):
    def test_edges(self):
        for full, many in ((0, 0), (17, 0), (18, 1), (35, 1), (36, 2), (37, 2)):
            self.assertEqual(Store(full, 9, LOADS).stands(), many)

    def test_none_where_kept_loads_draw_nothing(self):
        loads = (("a", 0), ("b", 0), ("c", 4))
        store = Store(9, 0, loads)
        self.assertEqual(store.stands(), 2)
        for many in (2, 1, 0):
            store.keep(many)
            self.assertIsNone(store.stands())
        store.keep(3)
        self.assertEqual(store.stands(), 2)

    def test_just_so_long(self):
        for seed in range(150):
            dice = random.Random(seed)
            loads = tuple(("abcdefgh"[at], dice.choice((0, 1, 2, 7, 30))) for at in range(dice.randint(1, 8)))
            full, gain, kept = dice.choice((0, 5, 60, 200)), dice.randint(0, 9), dice.randint(0, len(loads))
            ahead = [dice.random() < 0.5 for _ in range(dice.randint(0, 12))]
            store = Store(full, gain, loads)
            store.keep(kept)
            for mains in ahead:
                store.beat(mains)
            if sum(draw for _, draw in loads[:kept]) == 0:
                self.assertIsNone(store.stands())
            else:
                self.assertEqual(store.stands(), count_by_beats(full, gain, loads, kept, ahead))

    def test_asking_changes_nothing(self):
        store = Store(100, 1, LOADS)
        for _ in range(5):
            self.assertEqual((store.stands(), store.held()), (5, 100))
        self.assertEqual(store.beat(False), NAMES)
        self.assertEqual((store.stands(), store.held()), (4, 82))


class Model:
    """Point 29's words: each beginning is tried, the longest first."""

    def __init__(self, full, gain, loads):
        self.full, self.gain, self.loads, self.kept, self.now = full, gain, loads, len(loads), full

    def beat(self, mains):
        kept = self.loads[:self.kept]
        if mains:
            self.now = min(self.full, self.now + self.gain)
            return tuple(name for name, _ in kept)
        for many in range(len(kept), -1, -1):
            drawn = sum(draw for _, draw in kept[:many])
            if drawn <= self.now:
                self.now -= drawn
                return tuple(name for name, _ in kept[:many])


class Histories(unittest.TestCase):
    def test_seeded_beats(self):
        for seed in range(200):
            dice = random.Random(seed)
            loads = tuple(("abcdefgh"[at], dice.choice((0, 1, 3, 10, 50))) for at in range(dice.randint(1, 8)))
            made = (dice.choice((0, 10, 100, 400)), dice.choice((0, 1, 8, 60)), loads)
            store, model = Store(*made), Model(*made)
            for _ in range(40):
                if dice.random() < 0.2:
                    model.kept = dice.randint(0, len(loads))
                    store.keep(model.kept)
                mains = dice.random() < 0.4
                fed = store.beat(mains)
                self.assertEqual(fed, model.beat(mains))
                self.assertEqual(store.held(), model.now)
                self.assertEqual(fed, tuple(name for name, _ in loads[:len(fed)]))

    def test_two_share_nothing(self):
        one, other = Store(50, 5, LOADS), Store(50, 5, LOADS)
        one.keep(1)
        one.beat(False)
        self.assertEqual((other.held(), other.stands(), other.beat(True)), (50, 2, NAMES))
        self.assertEqual(Store(50, 5, LOADS).beat(False), NAMES)


if __name__ == "__main__":
    unittest.main()
