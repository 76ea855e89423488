"""Tables with hooks: [14.1] to [14.6]."""

import unittest
from itertools import product
from math import factorial, prod

from armlegs.base.polys import Poly
from armlegs.errors import InvalidNumber, InvalidOperation
from armlegs.paths import tables
from armlegs.paths.paths import path_sum
from armlegs.paths.tables import (
    drawn_in, drawn_out, entry_counts, entry_number, hook_tables, is_hook_table, table_sum, table_weight,
)
from tests.helpers import HOOK, NO_INTEGERS, NO_TUPLES, ONE, Q, T, ZERO, refuse

SIZES = range(1, 7)
SMALL = [table for size in range(1, 5) for table in hook_tables(size)]
LONG = ((0, 10 ** 59), (1 + 10 ** 59,))
NO_TABLES = NO_TUPLES + (
    (), ((1,), (1,)), ((0, 1), (1,)), ((1, 0), (2,)), ((1, 1), (2,)), ((0, 0), (1,)), ((0, 1), (3,)), ((0, 1),),
    ((0, 1), (2,), ()), ((0, 1), (2, 0)), ((0, 1), [2]), [[0, 1], [2]], [(0, 1), (2,)], ((0, True), (2,)),
    ((True, 0), (1,)), ((True,),), ((2,),), ((0,),), ((-1,),), ((1, 0), (True,)), ((2, -1), (0,)), ((-1, 2), (3,)),
    ((0, 1), ("2",)), ((0, 1), (None,)), ((10 ** 60,),), ((0, 10 ** 60), (1,)), LONG, ((1, 0), 1), ((1, 0), ((1,),)),
    {0: (0, 1), 1: (2,)}, (HOOK,), ((ONE,),), "((1,),)",
    tuple((1,) + (0,) * (6 - k) for k in range(7)),
)
BOTH = Q + T - ONE - Q * T


def hooks_of(table):
    found = []
    for k, row in enumerate(table):
        made = sum(row)
        for ahead in range(k):
            made -= table[ahead][k - ahead]
        found.append(made)
    return found


def brute_tables(size):
    """The hook tables, found among all tables with entries up to the size."""
    rows = [[row for row in product(range(size + 1), repeat=size - k) if sum(row) <= size] for k in range(size)]
    return sorted(table for table in product(*rows) if hooks_of(table) == [1] * size)


def brute_weight(table):
    made, above = ONE, 0
    for row in table:
        for entry in row:
            if entry > 0:
                part = ZERO
                for i in range(entry):
                    part = part + Poly.letter(i, entry - 1 - i)
                made, above = made * part, above + 1
    for _ in range(above - len(table)):
        made = made * BOTH
    return made


class TestTables(unittest.TestCase):
    def test_constant(self):
        self.assertEqual(tables.MAX_TABLE, 6)

    def test_hook_tables(self):
        for size in range(1, 4):
            self.assertEqual(list(hook_tables(size)), brute_tables(size))
        for size in SIZES:
            made = list(hook_tables(size))
            self.assertEqual(made, sorted(set(made)))
            for table in made[::7]:
                self.assertEqual(hooks_of(table), [1] * size)
                self.assertEqual([len(row) for row in table], list(range(size, 0, -1)))
        self.assertEqual([len(list(hook_tables(size))) for size in SIZES], [1, 2, 7, 40, 357, 4820])
        self.assertEqual(list(hook_tables(1)), [((1,),)])
        self.assertEqual(list(hook_tables(2)), [((0, 1), (2,)), ((1, 0), (1,))])

    def test_hook_tables_errors(self):
        for wrong in NO_INTEGERS + (0, 7, -1):
            made = hook_tables(wrong)
            refuse(self, InvalidNumber, ("given", wrong), next, made)
            for call in (entry_counts, table_sum):
                refuse(self, InvalidNumber, ("given", wrong), call, wrong)
        refuse(self, InvalidNumber, ("given", 6), table_sum, 6)

    def test_is_hook_table(self):
        for size in SIZES:
            for table in list(hook_tables(size))[::5]:
                self.assertIs(is_hook_table(table), True)
                for k in range(size):
                    more = table[:k] + ((table[k][0] + 1,) + table[k][1:],) + table[k + 1:]
                    self.assertIs(is_hook_table(more), False)
        for table in product(product(range(4), repeat=3), product(range(4), repeat=2), product(range(4), repeat=1)):
            self.assertIs(is_hook_table(table), hooks_of(table) == [1, 1, 1])
        for wrong in NO_TABLES:
            self.assertIs(is_hook_table(wrong), False)

    def test_table_errors(self):
        for wrong in NO_TABLES:
            for call in (entry_number, drawn_in, table_weight):
                refuse(self, InvalidOperation, None, call, wrong)
            refuse(self, InvalidOperation, None, drawn_out, wrong, (0,))
            refuse(self, InvalidOperation, None, drawn_out, wrong, None)
        refuse(self, InvalidOperation, None, drawn_in, ((1,),))
        for table in list(hook_tables(6))[::500]:
            refuse(self, InvalidOperation, None, drawn_out, table, (0,) * 6)

    def test_entries(self):
        for table in SMALL:
            size = len(table)
            above = sum(entry > 0 for row in table for entry in row)
            self.assertEqual(entry_number(table), above)
            self.assertGreaterEqual(above, size)
            self.assertEqual(sum(row[0] for row in table), size)
            self.assertTrue(all(any(row) for row in table))
        for size in SIZES:
            least = [table for table in hook_tables(size) if entry_number(table) == size]
            self.assertEqual(len(least), factorial(size))
            self.assertTrue(all(sum(entry > 0 for entry in row) == 1 for table in least for row in table))
        firsts = [table[:-1] for size in SIZES for table in hook_tables(size)]
        self.assertEqual(len(firsts), len(set(firsts)))

    def test_drawn_in(self):
        for size in range(2, 6):
            found = {}
            for table in hook_tables(size):
                made = drawn_in(table)
                right = []
                for row in table[:-1]:
                    right.append((row[0] + row[-1],) + row[1:-1])
                self.assertEqual(made, tuple(right))
                found[made] = found.get(made, 0) + 1
            smaller = list(hook_tables(size - 1))
            self.assertEqual(sorted(found), smaller)
            for table in smaller:
                self.assertEqual(found[table], prod(row[0] + 1 for row in table))

    def test_drawn_out(self):
        for size in range(1, 5):
            found = []
            for table in hook_tables(size):
                for parts in product(*[range(row[0] + 1) for row in table]):
                    made = drawn_out(table, parts)
                    self.assertIs(is_hook_table(made), True)
                    self.assertEqual(drawn_in(made), table)
                    self.assertEqual(tuple(row[-1] for row in made[:-1]), parts)
                    found.append(made)
            self.assertEqual(sorted(found), list(hook_tables(size + 1)))
        self.assertEqual(drawn_out(((1,),), (1,)), ((0, 1), (2,)))
        self.assertEqual(drawn_out(((1,),), (0,)), ((1, 0), (1,)))
        for table in list(hook_tables(5))[::20]:
            self.assertIs(is_hook_table(drawn_out(table, (0,) * 5)), True)

    def test_drawn_out_errors(self):
        table = ((0, 1), (2,))
        for wrong in NO_TUPLES + (
            (), (0,), (0, 0, 0), (1, 0), (0, 3), (0, -1), (-1, 0), (0, True), (False, 0), (0, None), (0, "1"), [0, 0],
            (0, 10 ** 60), (0, (0,)), {0: 0, 1: 0}, "00", (0, ONE),
        ):
            refuse(self, InvalidOperation, None, drawn_out, table, wrong)
        self.assertEqual(drawn_out(table, (0, 2)), ((0, 1, 0), (0, 2), (3,)))

    def test_weights(self):
        for table in SMALL + list(hook_tables(5))[::9] + list(hook_tables(6))[::300]:
            made = table_weight(table)
            self.assertEqual(made, brute_weight(table))
            self.assertEqual(made.traded(), made)
        self.assertEqual(table_weight(((1,),)), ONE)
        self.assertEqual(table_weight(((0, 1), (2,))), Q + T)
        self.assertEqual(table_weight(((0, 0, 1), (0, 1), (3,))), Q * Q + Q * T + T * T)
        self.assertEqual(table_weight(((0, 1, 0), (1, 1), (2,))), BOTH * (Q + T))

    def test_table_sum(self):
        for size in range(1, 6):
            made = ZERO
            for table in hook_tables(size):
                made = made + brute_weight(table)
            self.assertEqual(table_sum(size), made)
            self.assertEqual(made, path_sum(size).number_at("h", (1,) * size))
            self.assertTrue(made.is_positive())
            self.assertEqual(made.at(1, 1), ((size + 1) ** (size - 1), 1))
        self.assertEqual(table_sum(1), ONE)
        self.assertEqual(table_sum(2), ONE + Q + T)

    def test_entry_counts(self):
        for size in SIZES:
            counts = {}
            for table in hook_tables(size):
                counts[entry_number(table)] = counts.get(entry_number(table), 0) + 1
            self.assertEqual(entry_counts(size), tuple(sorted(counts.items())))
            self.assertEqual(entry_counts(size)[0], (size, factorial(size)))
        self.assertEqual(entry_counts(1), ((1, 1),))
        self.assertEqual(entry_counts(3), ((3, 6), (4, 1)))

    def test_not_true(self):
        self.assertTrue(any(not table_weight(table).is_positive() for table in SMALL))
        three = list(hook_tables(3))
        self.assertLess(len({table_weight(table).rows for table in three}), len(three))
        self.assertIn(((0, 1), (2,)), list(hook_tables(2)))
        self.assertEqual((len(three), path_sum(3).number_at("h", (1, 1, 1)).at(1, 1)), (7, (16, 1)))


if __name__ == "__main__":
    unittest.main()
