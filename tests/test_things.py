import unittest

from pagemaker.things import is_same, own_copy
from things import OTHER_THINGS


class OwnCopyTest(unittest.TestCase):
    def test_the_same(self):
        for thing in OTHER_THINGS:
            self.assertEqual(repr(own_copy(thing)), repr(thing))

    def test_lists_are_its_own_however_deep(self):
        inner = [1]
        thing = [(inner, [inner])]
        copy = own_copy(thing)
        inner.append(2)
        thing.append(3)
        self.assertEqual(copy, [([1], [[1]])])


class IsSameTest(unittest.TestCase):
    def test_of_any_two_things(self):
        things = OTHER_THINGS + (
            [1], [True], (1,), (True,), [0], [False], (0,), [None], [[1]], [(1,)], ([1],), [[True]], ["1"], [1, 1], ("", 0),
        )
        for at, one in enumerate(things):
            for other_at, other in enumerate(things):
                self.assertIs(is_same(one, other), repr(one) == repr(other), (one, other))
                self.assertIs(is_same(one, own_copy(other)), at == other_at or repr(one) == repr(other))

    def test_however_deep(self):
        one, other = 1, True
        for deep in range(12):
            one, other = (one, "x"), (other, "x")
            self.assertTrue(is_same(one, own_copy(one)))
            self.assertFalse(is_same(one, other))


if __name__ == "__main__":
    unittest.main()
