"""Point 19: blocks that are come to, and names given for sure."""

import unittest

from middles import MiddleMaker, second_come_to, second_given

from samepaper.given import come_to, given_at

GIVE = ("give", ())


def function(*blocks):
    return ("f", "", tuple(blocks))


class ComeToTest(unittest.TestCase):
    def assert_come_to(self, ends, told):
        self.assertEqual(come_to(function(*[((), (), end) for end in ends])), told)

    def test_ways(self):
        self.assert_come_to([GIVE], (0,))
        self.assert_come_to([GIVE, GIVE], (0,))
        self.assert_come_to([("go", 2, ()), GIVE, GIVE], (0, 2))
        self.assert_come_to([("fork", 1, 3, (), 1, ()), GIVE, GIVE, GIVE], (0, 1, 3))
        self.assert_come_to([("fork", 0, 3, (), 1, ()), GIVE, ("go", 1, ()), ("go", 3, ())], (0, 1, 3))
        self.assert_come_to([("call", 0, (), 2, ()), ("go", 2, ()), ("go", 3, ()), ("go", 2, ())], (0, 2, 3))
        self.assert_come_to([("go", 3, ()), ("go", 2, ()), ("go", 1, ()), GIVE], (0, 3))
        self.assert_come_to([("go", 4, ()), GIVE, ("go", 1, ()), ("go", 2, ()), ("go", 3, ())], (0, 1, 2, 3, 4))

    def test_a_long_way(self):
        ends = [("go", k + 1, ()) for k in range(599)] + [GIVE]
        self.assert_come_to(ends, tuple(range(600)))
        ends = [("go", 599, ()), GIVE] + [("go", k - 1, ()) for k in range(2, 600)]
        self.assert_come_to(ends, tuple(range(600)))


class GivenAtTest(unittest.TestCase):
    def test_one_block(self):
        self.assertEqual(given_at(function(((), (), GIVE))), ((),))
        self.assertEqual(given_at(function((("r1", "n2", "n10"), (("n3", "copy", (1,)),), GIVE))), (("n10", "n2", "r1"),))

    def test_rows_go_on(self):
        told = given_at(function(
            (("n0",), (("n1", "copy", (1,)), ("tick",), ("need", "bad", "n1"), ("r0", "make", ())), ("go", 1, (2,))),
            (("n2",), (("n3", "copy", (1,)),), GIVE),
        ))
        self.assertEqual(told, (("n0",), ("n0", "n1", "n2", "r0")))

    def test_not_come_to(self):
        told = given_at(function(
            ((), (), ("go", 2, ())),
            (("n0",), (("n1", "copy", (1,)),), ("go", 2, ())),
            ((), (), GIVE),
        ))
        self.assertEqual(told, ((), None, ()))

    def test_forks_meet(self):
        told = given_at(function(
            (("n0",), (), ("fork", "n0", 1, (), 2, (5,))),
            ((), (("n1", "copy", (1,)), ("n3", "copy", (1,))), ("go", 3, ())),
            (("n1",), (("n2", "copy", (1,)),), ("go", 3, ())),
            ((), (), GIVE),
        ))
        self.assertEqual(told, (("n0",), ("n0",), ("n0", "n1"), ("n0", "n1")))

    def test_a_fork_to_one_block(self):
        told = given_at(function(
            (("n0",), (), ("fork", "n0", 1, (1,), 1, (5,))),
            (("n1",), (("n2", "copy", (1,)),), ("fork", "n0", 1, ("n2",), 2, ())),
            ((), (), GIVE),
        ))
        self.assertEqual(told, (("n0",), ("n0", "n1"), ("n0", "n1", "n2")))

    def test_loops(self):
        told = given_at(function(
            ((), (("n0", "copy", (1,)),), ("go", 1, ())),
            ((), (("tick",),), ("fork", "n0", 2, (), 3, ())),
            ((), (("n1", "copy", (1,)), ("n2", "copy", (1,))), ("go", 1, ())),
            ((), (), GIVE),
        ))
        self.assertEqual(told, ((), ("n0",), ("n0",), ("n0",)))

    def test_calls_keep_names_and_give_params(self):
        told = given_at(function(
            (("n0",), (("n1", "copy", (1,)),), ("call", 0, (1,), 1, ("n1",))),
            (("n5", "n6"), (), GIVE),
        ))
        self.assertEqual(told, (("n0",), ("n0", "n1", "n5", "n6")))

    def test_kinds_of_what_is_told(self):
        told = given_at(function((("n1", "n0"), (), ("go", 2, ())), ((), (), GIVE), ((), (), GIVE)))
        self.assertIs(type(told), tuple)
        self.assertIs(type(told[0]), tuple)
        self.assertIs(type(come_to(function(((), (), GIVE)))), tuple)

    def test_long_chains_against_their_numbers(self):
        """What is given settles only at the end of a chain that runs from high numbers to low ones."""
        blocks = [((), (), ("fork", 1, 599, (), 300, ()))]
        blocks += [((), ((f"n{k}", "copy", (1,)),), ("go", k - 1, ()) if k > 1 else GIVE) for k in range(1, 600)]
        told = given_at(function(*blocks))
        self.assertEqual(told[599], ())
        self.assertEqual(told[400], tuple(sorted(f"n{k}" for k in range(401, 600))))
        self.assertEqual(told[300], ())
        self.assertEqual(told[1], tuple(sorted(f"n{k}" for k in range(2, 301))))

    def test_by_chance(self):
        for seed in range(1500):
            middle = MiddleMaker(seed).middle()
            for one in middle:
                self.assertEqual(come_to(one), second_come_to(one), middle)
                self.assertEqual(given_at(one), second_given(one), middle)
            self.assertEqual(middle, MiddleMaker(seed).middle())


if __name__ == "__main__":
    unittest.main()
