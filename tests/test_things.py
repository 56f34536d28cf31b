import unittest

from pagemaker.things import own_copy
from things import OTHER_THINGS


class OwnCopyTest(unittest.TestCase):
    def test_the_same(self):
        for thing in OTHER_THINGS:
            self.assertEqual(repr(own_copy(thing)), repr(thing))

    def test_lists_are_its_own_however_deep(self):
        inner = [1]
        thing = [(inner, [inner])]
        copy = own_copy(thing)
        inner.append(2)
        thing.append(3)
        self.assertEqual(copy, [([1], [[1]])])


if __name__ == "__main__":
    unittest.main()
