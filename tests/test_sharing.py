"""Point 39: shared middles."""

import unittest

from making import TICK, MadeCase, drawn_once, full_middle, one_function
from promises import second_slight, unshared

from samepaper.once import once
from samepaper.sharing import shared


def many_rows(blocks):
    return sum(len(rows) for params, rows, end in blocks)


class SharedCase(MadeCase):
    def shared_right(self, middle, *values):
        """The first function's blocks of a shared outcome, asked for all that is promised of it, and the paper."""
        outcome, paper = self.made(shared, middle, come_to=False)
        for function, told in zip(middle, outcome):
            self.assertTrue(not second_slight(function) or unshared(told) is None)
        for told in values:
            self.assert_alike(middle, outcome, lambda number: told[:len(middle[number][2][0][0])])
        return outcome[0][2], paper


class SharedTest(SharedCase):
    def test_in_one_block(self):
        middle = one_function((("n0", "n1"), (("n2", "add", ("n0", "n1")), ("n3", "mul", ("n2", 2)), TICK, ("n4", "add", ("n0", "n1")),
                                              ("n5", "mul", ("n4", 2)), ("n6", "sub", ("n5", "n3"))), ("give", ("n6",))))
        blocks, paper = self.shared_right(middle, (3, 4))
        self.assertEqual([row[0] for row in blocks[0][1]], ["n2", "n3", "tick", "n6"])

    def test_other_ops_and_operands(self):
        middle = one_function((("n0", "n1"), (("n2", "add", ("n0", "n1")), ("n3", "add", ("n1", "n1")), ("n4", "sub", ("n0", "n1")),
                                              ("n5", "add", ("n0", 1)), ("n6", "add", ("n0", 2)), ("r0", "make", ("n0", "n1")),
                                              ("r1", "make", ("n0",)), ("r2", "make", ())), ("give", ("n2",))))
        self.assertEqual(self.shared_right(middle, (3, 4))[0], middle[0][2])

    def test_each_sort_of_row(self):
        rows = (("n2", "copy", ("n0",)), ("n3", "copy", (5,)), ("r1", "make", ()), ("r2", "make", ("n0",) * 8), ("r3", "keep", ("r0",)),
                ("r4", "put", ("r0", "n0", 1)), ("n4", "at", ("r0", 0)), ("n5", "size", ("r0",)), ("r5", "many", (3, "n0")))
        again = tuple((f"{name[0]}{int(name[1:]) + 20}", *rest) for name, *rest in rows)
        middle = one_function((("n0", "r0"), rows, ("go", 1, ())), ((), again, ("give", ("n24",))))
        blocks, paper = self.shared_right(middle, (1, (4, 5)))
        self.assertEqual(many_rows(blocks), len(rows))

    def test_ahead_on_each_way(self):
        row = ("add", ("n0", 1))
        middle = one_function(
            (("n0",), (("n1", *row),), ("fork", "n0", 1, (), 2, ())),
            ((), (("n2", *row), ("n3", "mul", ("n2", "n0"))), ("go", 3, ("n3",))),
            ((), (("n4", *row),), ("go", 3, ("n4",))),
            (("n5",), (("n6", *row), ("n7", "add", ("n5", "n6"))), ("give", ("n7",))))
        blocks, paper = self.shared_right(middle, (0,), (3,))
        self.assertEqual(many_rows(blocks), 3)

    def test_ahead_on_one_way_alone(self):
        row = ("add", ("n0", 1))
        middle = one_function(
            (("n0",), (), ("fork", "n0", 1, (), 2, ())),
            ((), (("n2", *row),), ("go", 3, ("n2",))),
            ((), (("n4", *row),), ("go", 3, ("n4",))),
            (("n5",), (("n6", *row), ("n7", "add", ("n5", "n6"))), ("give", ("n7",))))
        self.assertEqual(self.shared_right(middle, (0,), (3,))[0], middle[0][2])

    def test_a_loop(self):
        """What the loop's params are given anew is not the same; what stands outside is."""
        middle = one_function(
            (("n0", "n1"), (("n2", "mul", ("n0", 3)),), ("go", 1, ("n1",))),
            (("n3",), (TICK, ("n4", "sub", ("n3", 1)), ("n5", "mul", ("n0", 3)), ("n6", "sub", ("n3", 1)), ("n7", "add", ("n5", "n6"))),
             ("fork", "n7", 1, ("n6",), 2, ())),
            ((), (("n8", "sub", ("n3", 1)), ("n9", "mul", ("n0", 3)), ("n10", "add", ("n8", "n9"))), ("give", ("n10",))))
        blocks, paper = self.shared_right(middle, (1, 1), (2, -3), (0, 4))
        self.assertEqual(many_rows(blocks), 5)

    def test_names_that_lived_no_more(self):
        """What leads is read behind blocks at whose begins the handed middle reads it no more."""
        row = ("add", ("n0", "n1"))
        middle = one_function(
            (("n0", "n1"), (("n2", *row), ("need", "bad", "n2")), ("go", 1, ())),
            ((), (TICK,), ("go", 2, ())),
            ((), (("n3", *row), ("n4", "mul", ("n3", "n3"))), ("go", 3, ())),
            ((), (("n5", *row), ("n6", "mul", ("n5", "n5"))), ("give", ("n6",))))
        blocks, paper = self.shared_right(middle, (1, 2), (1, -1))
        self.assertEqual(many_rows(blocks), 4)

    def test_one_that_is_gone_lives_and_another_is_ahead(self):
        for many in (1, 6, 7, 8):
            made = ("make", ("n0",) * many)
            middle = one_function(
                (("n0",), (("r0", *made), ("n1", "size", ("r0",))), ("go", 1, ())),
                ((), (("r1", *made),), ("go", 2, ())),
                ((), (("n2", "size", ("r1",)), ("need", "bad", "n2")), ("go", 3, ())),
                ((), (("r2", *made),), ("give", ("r2",))), results="r")
            blocks, paper = self.shared_right(middle, (3,))
            self.assertEqual(many_rows(blocks), 3)

    def test_results_of_calls_in_between(self):
        row = ("mul", ("n0", "n0"))
        middle = (
            ("f", "n", (
                (("n0",), (("n1", *row),), ("call", 1, ("n1",), 1, ("n1",))),
                (("n2", "n3"), (("n4", *row), ("n5", "add", ("n4", "n3")), ("n6", "add", ("n5", "n2"))), ("give", ("n6",))),
            )),
            ("g", "n", ((("n0",), (("n1", *row), ("n2", *row), ("n3", "add", ("n1", "n2"))), ("give", ("n3",))),)),
        )
        self.shared_right(middle, (3,))

    def test_blocks_that_are_not_come_to(self):
        row = ("mul", ("n0", "n0"))
        middle = one_function((("n0",), (("n1", *row),), ("go", 2, ())), ((), (("n2", *row), ("n3", "copy", ("n9",))), ("go", 2, ())),
                              ((), (("n4", *row),), ("give", ("n4",))))
        self.shared_right(middle, (3,))


class LargeTermsTest(SharedCase):
    """What leads and is not read any more is told by what it is reckoned of, where that is a term."""

    def again(self, deep, op, twice):
        """So many rows, each of the one ahead of it (twice, or and 7), that are reckoned in block 0 and in block 2 again."""
        def rows(first):
            names = ["n0"] + [f"n{first + k}" for k in range(deep)]
            return tuple((name, op, (ahead, ahead if twice else 7)) for ahead, name in zip(names, names[1:]))
        # What is reckoned again lives on, too.
        return one_function((("n0",), rows(1) + (TICK,), ("go", 1, ())), ((), (TICK,), ("go", 2, ())),
                            ((), rows(40), ("go", 3, ())), ((), (TICK,), ("give", (f"n{deep + 39}",))))

    def test_sixty_in_all(self):
        for deep in range(1, 9):
            middle = self.again(deep, "mul", True)
            blocks, paper = self.shared_right(middle, (3,), (-1,), (0,))
            self.assertEqual(many_rows(blocks), deep + 3)

    def test_twelve_within_one_another(self):
        for deep in (10, 11, 12, 13, 25):
            middle = self.again(deep, "div", False)
            blocks, paper = self.shared_right(middle, (3,), (-1,), (0,))
            self.assertEqual(many_rows(blocks), deep + 3)


class SizesTest(SharedCase):
    def test_a_slight_function_at_its_counts(self):
        """Twelve blocks of thirty rows, sixty names."""
        names = [f"n{k}" for k in range(1, 60)]
        blocks = []
        for b in range(12):
            rows = [(name, "mul", ("n0", (k + 5 * b) % 7)) for k, name in enumerate(names[5 * b:5 * b + 5])] + [TICK] * 25
            end = ("fork", names[5 * b], b + 1, (), (b + 3) // 2, ()) if b < 11 else ("give", (names[-1],))
            blocks.append((("n0",) if b == 0 else (), tuple(rows), end))
        middle = one_function(*blocks)
        self.assertTrue(second_slight(middle[0]))
        told, paper = self.shared_right(middle, (3,), (0,))
        self.assertLess(many_rows(told), many_rows(blocks))

    def test_too_many_names_would_live(self):
        """Seventy rows that are reckoned twice: all of them shared would live together."""
        def rows(op, first, many):
            return tuple((f"n{first + k}", op, ("n0", k)) for k in range(many))

        def needs(first, many):
            return tuple(("need", "bad", f"n{first + k}") for k in range(many))
        middle = one_function((("n0",), rows("add", 1, 58), ("go", 1, ())), ((), needs(1, 58), ("go", 2, ())),
                              ((), rows("sub", 101, 12), ("go", 3, ())), ((), needs(101, 12) + (TICK,), ("go", 4, ())),
                              ((), rows("add", 201, 58), ("go", 5, ())), ((), needs(201, 58), ("go", 6, ())),
                              ((), rows("sub", 301, 12), ("give", ("n312",))))
        self.assertFalse(second_slight(middle[0]))
        self.shared_right(middle, (300,), (0,))
        # Without those twelve it is not too much.
        fewer = one_function(*middle[0][2][:2], *[((), (TICK,), ("go", b, ())) for b in (3, 4)], *middle[0][2][4:6],
                             ((), (), ("give", ("n0",))))
        self.assertFalse(second_slight(fewer[0]))
        blocks, paper = self.shared_right(fewer, (300,), (0,))
        self.assertEqual(many_rows(blocks), many_rows(fewer[0][2]) - 58)

    def test_told_counts(self):
        values = tuple(range(58)) + ((1, 2), (3,))
        self.shared_right(once(full_middle())[0], values)


class DrawnTest(SharedCase):
    def test_by_chance(self):
        fewer = 0
        for seed in range(300):
            maker, middle = drawn_once(seed, again=0.6)
            outcome, paper = self.made(shared, middle, come_to=False)
            for function, told in zip(middle, outcome):
                if second_slight(function):
                    self.assertIsNone(unshared(told))
                    fewer += many_rows(told[2]) < many_rows(function[2])
            self.assert_alike(middle, outcome, lambda number: maker.values(middle, number))
        self.assertGreater(fewer, 100)

    def test_functions_that_are_not_slight(self):
        fewer = 0
        for seed in range(1, 40):
            maker, middle = drawn_once(4 * seed + 1, functions=2, blocks=20, rows=30, names=6, again=0.6)
            outcome, paper = self.made(shared, middle, come_to=False)
            self.assert_alike(middle, outcome, lambda number: maker.values(middle, number))
            fewer += any(not second_slight(function) and many_rows(told[2]) < many_rows(function[2])
                         for function, told in zip(middle, outcome))
        self.assertGreater(fewer, 10)


if __name__ == "__main__":
    unittest.main()
