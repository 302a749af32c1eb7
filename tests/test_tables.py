"""Tables: making them, their operators and methods, errors in their order."""

import itertools
import unittest

from makers import WRONG_INTEGERS, WRONG_KINDS, all_tables, error_of, plain_sums, some_tables
from splitnumbers.numbers import Numbers
from splitnumbers.tables import Table

T = Table([(1, 2, 3), (-4, 5, 0)])
TWELVE = Table.zeros(12, 12)


class MakingTest(unittest.TestCase):
    def test_rows_and_columns(self):
        table = Table([[1, 2], (3, -4)])
        self.assertEqual((table.rows, table.columns, table.height), (((1, 2), (3, -4)), 2, 2))
        self.assertEqual(Table(((1,),), columns=1).columns, 1)
        self.assertEqual((Table([], columns=5).rows, Table((), columns=5).columns), ((), 5))
        self.assertEqual(Table([(0,) * 12] * 12).height, 12)

    def test_wrong_rows(self):
        for value in WRONG_KINDS + (T, Numbers([1])):
            self.assertEqual(error_of(Table, value), ("BadRows", -1), value)
        for wrong in WRONG_KINDS + (Numbers([1, 2]), (1, None), (1, True), (1, 2.0), (1,), (1, 2, 3)):
            self.assertEqual(error_of(Table, [(1, 2), wrong, None]), ("BadRows", 1), wrong)
        self.assertEqual(error_of(Table, [(1, "2")]), ("BadRows", 0))
        self.assertEqual(error_of(Table, [(1,)] * 13), ("BadRows", 12))
        self.assertEqual(error_of(Table, [(1,)] * 14 + [None]), ("BadRows", 12))
        self.assertEqual(error_of(Table, [(1,)] * 11 + [None] + [(1,)] * 3), ("BadRows", 11))
        self.assertEqual(error_of(Table, [(1,) * 13, None]), ("BadRows", 1))

    def test_wrong_columns(self):
        self.assertEqual(error_of(Table, []), ("BadNumber", "columns"))
        self.assertEqual(error_of(Table, [()]), ("BadNumber", "columns"))
        self.assertEqual(error_of(Table, [(1,) * 13]), ("BadNumber", "columns"))
        self.assertEqual(error_of(Table, [(1,) * 13], columns=13), ("BadNumber", "columns"))
        for wrong in WRONG_INTEGERS + (0, 13, -1):
            if wrong is not None:
                self.assertEqual(error_of(Table, [], columns=wrong), ("BadNumber", "columns"))
                self.assertEqual(error_of(Table, [(7,)], columns=wrong), ("BadNumber", "columns"), wrong)
        self.assertEqual(error_of(Table, [(1, 2)], columns=1), ("BadNumber", "columns"))
        self.assertEqual(error_of(Table, [(1, 2)], columns=3), ("BadNumber", "columns"))
        self.assertEqual(error_of(Table, None, columns=0), ("BadRows", -1))

    def test_columns_by_name_only(self):
        with self.assertRaises(TypeError):
            Table([], 3)

    def test_what_is_handed_in_stays(self):
        row = [1, 2]
        rows = [row]
        table = Table(rows)
        row[0] = 9
        rows.append(row)
        self.assertEqual(table.rows, ((1, 2),))

    def test_zeros(self):
        self.assertEqual(Table.zeros(2, 3).rows, ((0, 0, 0), (0, 0, 0)))
        self.assertEqual((Table.zeros(0, 3).rows, Table.zeros(0, 3).columns), ((), 3))
        self.assertEqual((TWELVE.height, TWELVE.columns), (12, 12))
        for wrong in WRONG_INTEGERS + (-1, 13):
            self.assertEqual(error_of(Table.zeros, wrong, None), ("BadNumber", "height"))
        for wrong in WRONG_INTEGERS + (0, 13):
            self.assertEqual(error_of(Table.zeros, 0, wrong), ("BadNumber", "columns"))

    def test_unit_and_chain(self):
        self.assertEqual(Table.unit(3).rows, ((1, 0, 0), (0, 1, 0), (0, 0, 1)))
        self.assertEqual(Table.unit(1).rows, ((1,),))
        self.assertEqual(Table.chain(4).rows, ((1, -1, 0, 0), (0, 1, -1, 0), (0, 0, 1, -1)))
        self.assertEqual(Table.chain(2).rows, ((1, -1),))
        self.assertEqual((Table.chain(1).rows, Table.chain(1).columns), ((), 1))
        self.assertEqual((Table.unit(12).height, Table.chain(12).height), (12, 11))
        for call in (Table.unit, Table.chain):
            for wrong in WRONG_INTEGERS + (0, 13):
                self.assertEqual(error_of(call, wrong), ("BadNumber", "count"))


class OperatorsTest(unittest.TestCase):
    def test_side_by_side(self):
        self.assertEqual((T | Table([(7,), (8,)])).rows, ((1, 2, 3, 7), (-4, 5, 0, 8)))
        self.assertEqual((Table.zeros(0, 5) | Table.zeros(0, 7)).columns, 12)
        self.assertEqual(error_of(lambda: T | Table.zeros(1, 12)), ("OtherSize", 2))
        self.assertEqual(error_of(lambda: Table.zeros(2, 6) | Table.zeros(2, 7)), ("BadNumber", "columns"))
        self.assertEqual(error_of(lambda: Table.zeros(0, 6) | Table.zeros(0, 7)), ("BadNumber", "columns"))
        with self.assertRaises(TypeError):
            T | ((1,), (2,))

    def test_one_below_another(self):
        self.assertEqual((T & Table([(7, 8, 9)])).rows, T.rows + ((7, 8, 9),))
        self.assertEqual(T & Table.zeros(0, 3), T)
        self.assertEqual(Table.zeros(0, 3) & T, T)
        self.assertEqual((Table.zeros(6, 1) & Table.zeros(6, 1)).height, 12)
        self.assertEqual(error_of(lambda: T & Table.zeros(12, 4)), ("OtherSize", 3))
        self.assertEqual(error_of(lambda: Table.zeros(7, 1) & Table.zeros(6, 1)), ("BadNumber", "rows"))
        with self.assertRaises(TypeError):
            T & [(1, 2, 3)]

    def test_turned_table(self):
        self.assertEqual((~T).rows, ((1, -4), (2, 5), (3, 0)))
        self.assertEqual((~Table([(1,) * 12])).height, 12)
        self.assertEqual(error_of(lambda: ~Table.zeros(0, 3)), ("BadNumber", "height"))

    def test_other_signs(self):
        self.assertEqual((-T).rows, ((-1, -2, -3), (4, -5, 0)))
        self.assertEqual((-Table.zeros(0, 3)).columns, 3)

    def test_equality(self):
        self.assertTrue(T == Table([[1, 2, 3], [-4, 5, 0]]))
        self.assertFalse(T == Table([(1, 2, 3), (-4, 5, 1)]))
        self.assertFalse(Table.zeros(0, 3) == Table.zeros(0, 4))
        self.assertFalse(T == T.rows)
        self.assertTrue(T != Table.zeros(2, 3))

    def test_rows_are_read(self):
        self.assertEqual(len(T), 2)
        self.assertEqual(len(Table.zeros(0, 2)), 0)
        self.assertEqual([T[0], T[1]], [(1, 2, 3), (-4, 5, 0)])
        self.assertEqual(list(T), [(1, 2, 3), (-4, 5, 0)])
        for wrong in (-1, 2, True, None, "0", slice(0, 1)):
            with self.assertRaises(IndexError):
                T[wrong]
        with self.assertRaises(IndexError):
            Table.zeros(0, 2)[0]

    def test_row_in_table(self):
        self.assertTrue((1, 2, 3) in T)
        self.assertTrue([-4, 5, 0] in T)
        for other in ((1, 2), (3, 2, 1), None, 5, "123", (True, 2, 3), (1.0, 2, 3), Numbers([1, 2, 3]), ((1, 2, 3),)):
            self.assertFalse(other in T, other)
        self.assertFalse(() in Table.zeros(0, 2))
        self.assertFalse((0, True) in Table([(0, 1)]))

    def test_sums_of_integers(self):
        self.assertEqual(T([1, 1, 1]), (6, 1))
        self.assertEqual(T((0, -1, 2)), (4, -5))
        self.assertEqual(T(Numbers([2, 0, 0])), (2, -8))
        self.assertEqual(Table.zeros(0, 2)([3, 4]), ())
        for table in some_tables(50):
            numbers = list(range(-1, table.columns - 1))
            self.assertEqual(table(numbers), plain_sums(table, numbers))
        for wrong in WRONG_KINDS + (Numbers([1, 1], 2), Numbers([1, 2, 3], 2)):
            self.assertEqual(error_of(T, wrong), ("BadNumbers", -1))
        self.assertEqual(error_of(T, [1, (1, 1), None]), ("BadNumbers", 1))
        self.assertEqual(error_of(T, [1, 2]), ("OtherSize", 3))
        self.assertEqual(error_of(T, Numbers([1, 2, 3, 4])), ("OtherSize", 3))

    def test_sums_of_numbers(self):
        self.assertEqual(T.sums_of(Numbers([1, 1, 1], 2)), Numbers([6, 1], 2))
        self.assertEqual(T.sums_of([1, 1, 1]), Numbers([6, 1]))
        self.assertEqual(Table.zeros(0, 1).sums_of([4]), Numbers([]))
        self.assertEqual(error_of(T.sums_of, [(1, 2), 0, 0]), ("BadNumbers", 0))
        self.assertEqual(error_of(T.sums_of, 4), ("BadNumbers", -1))
        self.assertEqual(error_of(T.sums_of, Numbers([1, 2], 3)), ("OtherSize", 3))


class MethodsTest(unittest.TestCase):
    def test_column(self):
        self.assertEqual([T.column(j) for j in range(3)], [(1, -4), (2, 5), (3, 0)])
        self.assertEqual(Table.zeros(0, 2).column(1), ())
        for wrong in WRONG_INTEGERS + (-1, 3):
            self.assertEqual(error_of(T.column, wrong), ("BadSpot", "column"))

    def test_lot(self):
        self.assertEqual(T.lot([1, 0], [2, 0]).rows, ((1, 3), (-4, 0)))
        self.assertEqual(T.lot([1], (1,)).rows, ((5,),))
        self.assertEqual((T.lot((), [0, 1]).rows, T.lot((), [0, 1]).columns), ((), 2))
        self.assertEqual(error_of(T.lot, None, [0]), ("BadSet", -1))
        self.assertEqual(error_of(T.lot, [0, 2], [5]), ("BadSet", 1))
        self.assertEqual(error_of(T.lot, [0, 1], [0, 0]), ("BadSet", 1))
        self.assertEqual(error_of(T.lot, [0, 1], 3), ("BadSet", -1))
        self.assertEqual(error_of(T.lot, [0], []), ("BadSet", -1))
        self.assertEqual(error_of(T.lot, [0, 0], []), ("BadSet", 1))

    def test_with_row(self):
        self.assertEqual(T.with_row([7, 8, 9]).rows, T.rows + ((7, 8, 9),))
        self.assertEqual(T.with_row([7, 8, 9], 0).rows, ((7, 8, 9),) + T.rows)
        self.assertEqual(T.with_row([7, 8, 9], 1).rows, (T[0], (7, 8, 9), T[1]))
        self.assertEqual(T.with_row(Numbers([7, 8, 9]), 2).rows, T.rows + ((7, 8, 9),))
        self.assertEqual(Table.zeros(0, 1).with_row((4,)).rows, ((4,),))
        self.assertEqual(Table.zeros(11, 1).with_row([1], 4)[4], (1,))
        self.assertEqual(error_of(T.with_row, [1, None], 9), ("BadNumbers", 1))
        self.assertEqual(error_of(T.with_row, Numbers([1, 2, 3], 2), 9), ("BadNumbers", -1))
        self.assertEqual(error_of(T.with_row, [1, 2], 9), ("OtherSize", 3))
        for wrong in (-1, 3, True, "0"):
            self.assertEqual(error_of(T.with_row, [1, 2, 3], wrong), ("BadSpot", "place"))
        self.assertEqual(error_of(TWELVE.with_row, (0,) * 12, 13), ("BadSpot", "place"))
        self.assertEqual(error_of(TWELVE.with_row, (0,) * 12), ("BadNumber", "rows"))
        self.assertEqual(error_of(TWELVE.with_row, (0,) * 12, 12), ("BadNumber", "rows"))

    def test_with_column(self):
        self.assertEqual(T.with_column([7, 8]).rows, ((1, 2, 3, 7), (-4, 5, 0, 8)))
        self.assertEqual(T.with_column([7, 8], 0).rows, ((7, 1, 2, 3), (8, -4, 5, 0)))
        self.assertEqual(T.with_column(Numbers([7, 8]), 3).rows, ((1, 2, 3, 7), (-4, 5, 0, 8)))
        self.assertEqual(T.with_column((7, 8), 2).rows, ((1, 2, 7, 3), (-4, 5, 8, 0)))
        self.assertEqual(Table.zeros(0, 3).with_column([]).columns, 4)
        self.assertEqual(Table.zeros(1, 11).with_column([5], 0)[0], (5,) + (0,) * 11)
        self.assertEqual(error_of(T.with_column, [1, 2, None], 9), ("BadNumbers", 2))
        self.assertEqual(error_of(T.with_column, [1, 2, 3], 9), ("OtherSize", 2))
        for wrong in (-1, 4, False, "0"):
            self.assertEqual(error_of(T.with_column, [1, 2], wrong), ("BadSpot", "place"))
        self.assertEqual(error_of(TWELVE.with_column, (0,) * 12, 13), ("BadSpot", "place"))
        self.assertEqual(error_of(TWELVE.with_column, (0,) * 12), ("BadNumber", "columns"))
        self.assertEqual(error_of(Table.zeros(0, 12).with_column, ()), ("BadNumber", "columns"))

    def test_without(self):
        self.assertEqual(T.without_row(0).rows, ((-4, 5, 0),))
        self.assertEqual(T.without_row(1).rows, ((1, 2, 3),))
        self.assertEqual((Table([(1, 2)]).without_row(0).rows, Table([(1, 2)]).without_row(0).columns), ((), 2))
        self.assertEqual(T.without_column(1).rows, ((1, 3), (-4, 0)))
        self.assertEqual(Table.zeros(0, 2).without_column(0).columns, 1)
        for wrong in WRONG_INTEGERS + (-1, 2):
            self.assertEqual(error_of(T.without_row, wrong), ("BadSpot", "row"))
        for wrong in WRONG_INTEGERS + (-1, 3):
            self.assertEqual(error_of(T.without_column, wrong), ("BadSpot", "column"))
        self.assertEqual(error_of(Table.zeros(0, 2).without_row, 0), ("BadSpot", "row"))
        self.assertEqual(error_of(Table([(1,)]).without_column, 0), ("BadSpot", "column"))

    def test_put_in_and_taken_out(self):
        for table in some_tables(40, heights=(0, 4)):
            for place in range(table.height + 1):
                row = list(range(table.columns))
                self.assertEqual(table.with_row(row, place).without_row(place), table)
                self.assertEqual(table.with_row(row, place)[place], tuple(row))
            for place in range(table.columns + 1):
                column = tuple(range(table.height))
                self.assertEqual(table.with_column(column, place).without_column(place), table)
                self.assertEqual(table.with_column(column, place).column(place), column)

    def test_turned_and_times(self):
        self.assertEqual(T.turned_row(0).rows, ((-1, -2, -3), (-4, 5, 0)))
        self.assertEqual(T.turned_row(1).rows, ((1, 2, 3), (4, -5, 0)))
        self.assertEqual(T.turned_column(1).rows, ((1, -2, 3), (-4, -5, 0)))
        self.assertEqual(Table.zeros(0, 2).turned_column(1), Table.zeros(0, 2))
        self.assertEqual(T.times_row(1, -2).rows, ((1, 2, 3), (8, -10, 0)))
        self.assertEqual(T.times_row(0, 0).rows, ((0, 0, 0), (-4, 5, 0)))
        for wrong in WRONG_INTEGERS + (-1, 2):
            self.assertEqual(error_of(T.turned_row, wrong), ("BadSpot", "row"))
            self.assertEqual(error_of(T.times_row, wrong, None), ("BadSpot", "row"))
        for wrong in WRONG_INTEGERS + (-1, 3):
            self.assertEqual(error_of(T.turned_column, wrong), ("BadSpot", "column"))
        for wrong in WRONG_INTEGERS:
            self.assertEqual(error_of(T.times_row, 0, wrong), ("BadNumber", "t"))

    def test_copied(self):
        self.assertEqual(T.copied(1).rows, ((1, 2, 3, 2), (-4, 5, 0, 5)))
        self.assertEqual(Table.zeros(0, 2).copied(0).columns, 3)
        self.assertEqual(Table([tuple(range(11))]).copied(4)[0], tuple(range(11)) + (4,))
        for wrong in WRONG_INTEGERS + (-1, 12):
            self.assertEqual(error_of(TWELVE.copied, wrong), ("BadSpot", "column"))
        self.assertEqual(error_of(TWELVE.copied, 0), ("BadNumber", "columns"))

    def test_exchanged(self):
        self.assertEqual(T.exchanged([1, 0], (2, 0, 1)).rows, ((0, -4, 5), (3, 1, 2)))
        self.assertEqual(Table.zeros(0, 2).exchanged([], [1, 0]), Table.zeros(0, 2))
        for order in itertools.permutations(range(3)):
            changed = T.exchanged((0, 1), order)
            self.assertEqual([changed.column(k) for k in range(3)], [T.column(j) for j in order])
        self.assertEqual(error_of(T.exchanged, [0, 2], [9]), ("BadSet", 1))
        self.assertEqual(error_of(T.exchanged, [0], None), ("BadSet", -1))
        self.assertEqual(error_of(T.exchanged, [1, 1], [0, 1, 2]), ("BadSet", 1))
        self.assertEqual(error_of(T.exchanged, [1, 0], [0, 1, 9]), ("BadSet", 2))
        self.assertEqual(error_of(T.exchanged, [1, 0], [0, 1]), ("BadSet", -1))
        self.assertEqual(error_of(T.exchanged, None, [9]), ("BadSet", -1))

    def test_no_method_changes_its_table(self):
        for table in all_tables(2, 2, (-1, 2)):
            before = (table.rows, table.columns)
            results = [~table, -table, table | table, table & table, table.lot([0], [1]), table.with_row([5, 5]),
                       table.with_column([5, 5]), table.without_row(0), table.without_column(0), table.turned_row(0),
                       table.turned_column(0), table.times_row(0, 3), table.copied(0), table.exchanged([1, 0], [1, 0])]
            self.assertEqual((table.rows, table.columns), before)
            self.assertTrue(all(isinstance(result, Table) for result in results))

    def test_methods_stand_in_the_class(self):
        for name in ("zeros unit chain height column lot with_row with_column without_row without_column turned_row "
                     "turned_column times_row copied exchanged sums_of").split():
            self.assertIn(name, vars(Table))


if __name__ == "__main__":
    unittest.main()
