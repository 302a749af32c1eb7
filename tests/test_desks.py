"""Desks: deeds, deeds taken back, and all that a desk tells against a new desk of its table and tolls."""

import itertools
import unittest

from deskers import next_deed, plain_done, some_deeds
from firmers import firm_tables, negative, ones
from makers import WRONG_INTEGERS, WRONG_KINDS, error_of, some_numbers, some_tables, stream
from splitnumbers.blocks import blocks_of
from splitnumbers.bounds import square_bound
from splitnumbers.desks import Desk
from splitnumbers.firmness import is_firm
from splitnumbers.growing import goes_in, grown_lones, rows_that_go_in
from splitnumbers.leasts import least_tolls
from splitnumbers.lones import lone_splits, toll_of_row
from splitnumbers.nearest import near_rounding
from splitnumbers.numbers import Numbers
from splitnumbers.tables import Table
from splitnumbers.tolls import failing_part, loose_rows, serves

TWO = Table([(1, 1), (1, -1)])


def state(desk):
    return desk.table_now, desk.tolls, desk.deeds


def answers(desk):
    """All that a desk tells, errors as tuples."""
    n = desk.table_now.columns
    rows = [i for i, q in enumerate(desk.tolls) if q > 0]
    told = [desk.serving(), desk.failing(), desk.lones(), desk.firm(), desk.loose(), desk.blocks()]
    for call, value in ((desk.room_for, [3] * n), (desk.room_for, (1,) * n), (desk.near, [(1, 3)] * n),
                        (desk.near, [(1, 2)] * n), (desk.bound, rows), (desk.bound, list(range(len(desk.tolls))))):
        error = error_of(call, value)
        told.append(error if error else call(value))
    return told


class MakingTest(unittest.TestCase):
    def test_a_new_desk(self):
        desk = Desk(TWO, [2, 1], name="two")
        self.assertEqual((desk.name, desk.table_now, desk.tolls, desk.deeds), ("two", TWO, (2, 1), ()))
        self.assertEqual(Desk(TWO, (2, 1)).name, "")
        free = Desk(Table.zeros(0, 3), ())
        self.assertEqual(state(free), (Table.zeros(0, 3), (), ()))
        tolls = [2, 1]
        desk = Desk(TWO, tolls)
        tolls[0] = 5
        self.assertEqual(desk.tolls, (2, 1))

    def test_the_tolls_need_not_serve(self):
        desk = Desk(TWO, (1, 1))
        self.assertIs(desk.serving(), False)
        self.assertEqual(desk.failing(), (0, 1))
        self.assertEqual(error_of(desk.room_for, (1, 1)), ("NotServing", (0, 1)))
        self.assertEqual(error_of(desk.near, (0, 0)), ("NotServing", (0, 1)))

    def test_errors(self):
        for wrong in (None, 5, TWO.rows, [(1, 1)], "table"):
            self.assertEqual(error_of(Desk, wrong, None, name=None), ("BadTable", -1))
        for wrong in WRONG_KINDS:
            self.assertEqual(error_of(Desk, TWO, wrong, name=None), ("BadTolls", -1))
        for wrong in WRONG_INTEGERS + (-1,):
            self.assertEqual(error_of(Desk, TWO, (0, wrong, None), name=None), ("BadTolls", 1))
        for tolls in ((), (1,), [1] * 3):
            self.assertEqual(error_of(Desk, TWO, tolls, name=None), ("OtherSize", 2))
        for wrong in (None, 5, b"two", ["two"], True):
            self.assertEqual(error_of(Desk, TWO, (1, 1), name=wrong), ("BadDeed", "name"))

    def test_attributes(self):
        desk = Desk(TWO, (2, 1))
        with self.assertRaises(AttributeError):
            desk.tolls = (1, 1)
        self.assertEqual(desk.tolls, (2, 1))
        desk.name = "other"
        self.assertEqual((desk.name, desk.deeds), ("other", ()))
        with self.assertRaises(TypeError):
            Desk(TWO, (2, 1), "two")


class DeedsTest(unittest.TestCase):
    def test_all_eight_deeds(self):
        desk = Desk(TWO, (2, 1))
        steps = [
            (("row", (5, 6), 1, 9), [(1, 1), (5, 6), (1, -1)], (2, 9, 1)),
            (("column", (7, 8, 9), 0), [(7, 1, 1), (8, 5, 6), (9, 1, -1)], (2, 9, 1)),
            (("turn row", 2), [(7, 1, 1), (8, 5, 6), (-9, -1, 1)], (2, 9, 1)),
            (("turn column", 0), [(-7, 1, 1), (-8, 5, 6), (9, -1, 1)], (2, 9, 1)),
            (("number", 1, 2, -3), [(-7, 1, 1), (-8, 5, -3), (9, -1, 1)], (2, 9, 1)),
            (("toll", 0, 0), [(-7, 1, 1), (-8, 5, -3), (9, -1, 1)], (0, 9, 1)),
            (("drop row", 0), [(-8, 5, -3), (9, -1, 1)], (9, 1)),
            (("drop column", 1), [(-8, -3), (9, 1)], (9, 1)),
        ]
        for k, (deed, rows, tolls) in enumerate(steps):
            self.assertIsNone(desk.do(list(deed)))
            self.assertEqual((desk.table_now.rows, desk.tolls), (tuple(rows), tolls))
            self.assertEqual(desk.deeds, tuple(deed for deed, _, _ in steps[:k + 1]))
            self.assertTrue(all(isinstance(deed, tuple) for deed in desk.deeds))
        for deed, _, _ in steps[::-1]:
            self.assertEqual(desk.back(), deed)
        self.assertEqual(state(desk), (TWO, (2, 1), ()))

    def test_places(self):
        for place, rows in ((0, [(3, 4), (1, 1), (1, -1)]), (1, [(1, 1), (3, 4), (1, -1)]), (2, [(1, 1), (1, -1), (3, 4)])):
            desk = Desk(TWO, (2, 1))
            desk.do(("row", (3, 4), place, 5))
            self.assertEqual(desk.table_now, Table(rows))
            self.assertEqual(desk.tolls[place], 5)
            self.assertEqual([q for k, q in enumerate(desk.tolls) if k != place], [2, 1])
        for place, rows in ((0, [(3, 1, 1), (4, 1, -1)]), (1, [(1, 3, 1), (1, 4, -1)]), (2, [(1, 1, 3), (1, -1, 4)])):
            desk = Desk(TWO, (2, 1))
            desk.do(("column", (3, 4), place))
            self.assertEqual((desk.table_now, desk.tolls), (Table(rows), (2, 1)))

    def test_without_rows(self):
        desk = Desk(Table([(5, 6)]), (9,))
        desk.drop_row(0)
        self.assertEqual(state(desk), (Table.zeros(0, 2), (), (("drop row", 0),)))
        desk.put_column([])
        self.assertEqual((desk.table_now, desk.deeds[-1]), (Table.zeros(0, 3), ("column", (), 2)))
        self.assertEqual((desk.serving(), desk.lones(), desk.loose(), desk.blocks()), (True, [(0, 0, 1), (0, 1, 0), (1, 0, 0)], (), []))
        desk.put_row((1, 2, 3))
        self.assertEqual((desk.table_now, desk.tolls), (Table([(1, 2, 3)]), (1,)))

    def test_deeds_that_change_nothing(self):
        desk = Desk(Table([(0, 0), (1, 2)]), (1, 3))
        for deed in (("number", 1, 1, 2), ("toll", 1, 3), ("turn row", 0)):
            desk.do(deed)
            self.assertEqual((desk.table_now, desk.tolls, desk.deeds[-1]), (Table([(0, 0), (1, 2)]), (1, 3), deed))
        self.assertEqual(len(desk.deeds), 3)

    def test_methods_do_deeds(self):
        calls = [
            (lambda desk: desk.put_row((3, 4)), ("row", (3, 4), 2, 1)), (lambda desk: desk.put_row([3, 4], 0), ("row", (3, 4), 0, 1)),
            (lambda desk: desk.put_row((3, 4), 1, 7), ("row", (3, 4), 1, 7)),
            (lambda desk: desk.put_row(Numbers([3, 4]), toll=0), ("row", (3, 4), 2, 0)),
            (lambda desk: desk.put_row((3, 4), toll=5, place=0), ("row", (3, 4), 0, 5)),
            (lambda desk: desk.put_column((3, 4)), ("column", (3, 4), 2)), (lambda desk: desk.put_column([3, 4], 1), ("column", (3, 4), 1)),
            (lambda desk: desk.put_column([3, 4], place=0), ("column", (3, 4), 0)), (lambda desk: desk.drop_row(1), ("drop row", 1)),
            (lambda desk: desk.drop_column(0), ("drop column", 0)), (lambda desk: desk.turn_row(0), ("turn row", 0)),
            (lambda desk: desk.turn_column(1), ("turn column", 1)), (lambda desk: desk.set_number(1, 0, 9), ("number", 1, 0, 9)),
            (lambda desk: desk.set_toll(1, 4), ("toll", 1, 4)),
        ]
        for call, deed in calls:
            desk, other = Desk(TWO, (2, 1)), Desk(TWO, (2, 1))
            self.assertIsNone(call(desk))
            other.do(deed)
            self.assertEqual(state(desk), state(other))
            self.assertEqual(desk.deeds, (deed,))

    def test_set_tolls(self):
        desk = Desk(Table.zeros(3, 2), (1, 2, 3))
        self.assertIsNone(desk.set_tolls([1, 2, 3]))
        self.assertEqual(desk.deeds, ())
        desk.set_tolls((4, 2, 0))
        self.assertEqual((desk.tolls, desk.deeds), ((4, 2, 0), (("toll", 0, 4), ("toll", 2, 0))))
        self.assertEqual(desk.back(), ("toll", 2, 0))
        self.assertEqual(desk.tolls, (4, 2, 3))
        for wrong in WRONG_KINDS:
            self.assertEqual(error_of(desk.set_tolls, wrong), ("BadTolls", -1))
        for wrong in WRONG_INTEGERS + (-1,):
            self.assertEqual(error_of(desk.set_tolls, (9, wrong)), ("BadTolls", 1))
        self.assertEqual(error_of(desk.set_tolls, (9, 9)), ("OtherSize", 3))
        self.assertEqual((desk.tolls, len(desk.deeds)), ((4, 2, 3), 1))
        free = Desk(Table.zeros(0, 2), [])
        free.set_tolls([])
        self.assertEqual(state(free), (Table.zeros(0, 2), (), ()))
        self.assertEqual(error_of(free.set_tolls, (1,)), ("OtherSize", 0))


class RefusedTest(unittest.TestCase):
    def refused(self, desk, deed, error):
        before = state(desk), answers(desk)
        self.assertEqual(error_of(desk.do, deed), error, deed)
        self.assertEqual((state(desk), answers(desk)), before)

    def test_refused_deeds_change_nothing(self):
        desk = Desk(TWO, (2, 1))
        desk.turn_row(0)
        cases = [
            (("row", (1,), 9, -1), ("OtherSize", 2)), (("row", (1, 2, 3), 9, -1), ("OtherSize", 2)),
            (("row", (1, 2), 3, -1), ("BadSpot", "place")), (("row", (1, 2), -1, 0), ("BadSpot", "place")),
            (("row", (1, 2), 0, -1), ("BadTolls", 0)), (("row", (1, 2), 2, -9), ("BadTolls", 2)),
            (("column", (1,), 9), ("OtherSize", 2)), (("column", (1, 2), 3), ("BadSpot", "place")),
            (("column", (1, 2), -1), ("BadSpot", "place")),
            (("drop row", 2), ("BadSpot", "row")), (("drop row", -1), ("BadSpot", "row")),
            (("turn row", 2), ("BadSpot", "row")), (("turn row", -1), ("BadSpot", "row")),
            (("drop column", 2), ("BadSpot", "column")), (("drop column", -1), ("BadSpot", "column")),
            (("turn column", 2), ("BadSpot", "column")), (("turn column", -1), ("BadSpot", "column")),
            (("number", 2, 9, 1), ("BadSpot", "row")), (("number", 1, 2, 1), ("BadSpot", "column")),
            (("number", -1, 0, 1), ("BadSpot", "row")), (("number", 0, -1, 1), ("BadSpot", "column")),
            (("toll", 2, -1), ("BadSpot", "row")), (("toll", -1, 1), ("BadSpot", "row")), (("toll", 1, -1), ("BadTolls", 1)),
            (None, ("BadDeed", "kind")), (("rows", 1), ("BadDeed", "kind")), ((), ("BadDeed", "kind")),
            (("toll", 9), ("BadDeed", "length")), (("toll", 9, None), ("BadDeed", "number")),
            (("row", (1, None), 0, 1), ("BadDeed", "number")), (("row", (1, 2), None, 1), ("BadDeed", "number")),
        ]
        for deed, error in cases:
            self.refused(desk, deed, error)
        self.assertEqual(desk.deeds, (("turn row", 0),))

    def test_a_thirteenth_row_or_column(self):
        desk = Desk(Table.zeros(12, 12), (1,) * 12)
        self.assertEqual(error_of(desk.do, ("row", (0,) * 12, 12, -1)), ("BadNumber", "rows"))
        self.assertEqual(error_of(desk.do, ("row", (0,) * 12, 13, -1)), ("BadSpot", "place"))
        self.assertEqual(error_of(desk.put_row, (0,) * 11), ("OtherSize", 12))
        self.assertEqual(error_of(desk.put_column, (0,) * 12), ("BadNumber", "columns"))
        self.assertEqual(error_of(desk.put_column, (0,) * 12, 13), ("BadSpot", "place"))
        self.assertEqual(desk.deeds, ())
        desk.drop_row(0)
        desk.put_row((1,) * 12, 0, 3)
        self.assertEqual((desk.table_now.height, desk.tolls[0]), (12, 3))

    def test_the_only_column(self):
        desk = Desk(Table([(5,)]), (9,))
        self.refused(desk, ("drop column", 0), ("BadSpot", "column"))
        desk.drop_row(0)
        self.refused(desk, ("drop column", 0), ("BadSpot", "column"))
        self.refused(desk, ("turn row", 0), ("BadSpot", "row"))
        self.refused(desk, ("toll", 0, 1), ("BadSpot", "row"))
        self.refused(desk, ("number", 0, 0, 1), ("BadSpot", "row"))

    def test_methods_raise_the_same(self):
        desk = Desk(TWO, (2, 1))
        for wrong in WRONG_INTEGERS:
            for call in (desk.drop_row, desk.drop_column, desk.turn_row, desk.turn_column):
                self.assertEqual(error_of(call, wrong), ("BadDeed", "number"))
            self.assertEqual(error_of(desk.set_toll, 0, wrong), ("BadDeed", "number"))
            self.assertEqual(error_of(desk.set_number, 0, wrong, 0), ("BadDeed", "number"))
            self.assertEqual(error_of(desk.put_row, (1, 2), 0, wrong), ("BadDeed", "number"))
            if wrong is not None:
                self.assertEqual(error_of(desk.put_row, (1, 2), wrong), ("BadDeed", "number"))
                self.assertEqual(error_of(desk.put_column, (1, 2), place=wrong), ("BadDeed", "number"))
        for wrong in WRONG_KINDS + (Numbers([1, 2], 2),):
            self.assertEqual(error_of(desk.put_row, wrong), ("BadDeed", "number"))
            self.assertEqual(error_of(desk.put_column, wrong), ("BadDeed", "number"))
        self.assertEqual(error_of(desk.put_row, (1, 2), 5, -1), ("BadSpot", "place"))
        self.assertEqual(error_of(desk.put_row, (1, 2), toll=-1), ("BadTolls", 2))
        self.assertEqual(error_of(desk.set_toll, 1, -1), ("BadTolls", 1))
        self.assertEqual(state(desk), (TWO, (2, 1), ()))


class BackTest(unittest.TestCase):
    def test_no_deed(self):
        desk = Desk(TWO, (2, 1))
        self.assertEqual(error_of(desk.back), ("NothingBack",))
        self.assertEqual(desk.back_to(0), ())
        desk.turn_row(0)
        self.assertEqual(desk.back(), ("turn row", 0))
        self.assertEqual(error_of(desk.back), ("NothingBack",))

    def test_back_to(self):
        desk = Desk(TWO, (2, 1))
        for deed in (("turn row", 0), ("toll", 0, 7), ("number", 0, 0, 5)):
            desk.do(deed)
        for wrong in WRONG_INTEGERS + (-1, 4):
            self.assertEqual(error_of(desk.back_to, wrong), ("BadNumber", "count"))
        self.assertEqual(desk.back_to(3), ())
        self.assertEqual(desk.back_to(1), (("number", 0, 0, 5), ("toll", 0, 7)))
        self.assertEqual(state(desk), (TWO.turned_row(0), (2, 1), (("turn row", 0),)))
        self.assertEqual(desk.back_to(0), (("turn row", 0),))
        self.assertEqual(state(desk), (TWO, (2, 1), ()))

    def test_many_deeds(self):
        for seed in range(6):
            table = list(some_tables(1, seed + 481, (0, 3), (1, 3)))[0]
            tolls = tuple(some_numbers(table.height, seed, 0, 3))
            desk = Desk(table, tolls, name="made")
            states = [(table, tolls, ())]
            for deed, now, due in some_deeds(60, seed * seed * 77 + 9, table, tolls):
                self.assertIsNone(desk.do(deed))
                self.assertEqual((desk.table_now, desk.tolls, desk.deeds[-1]), (now, due, deed))
                states.append(state(desk))
                self.assertEqual(answers(desk), answers(Desk(now, due)))
            # Back singly, then together.
            for before in states[:-1][::-1][:20]:
                self.assertEqual(desk.back(), states[len(before[2]) + 1][2][-1])
                self.assertEqual(state(desk), before)
            taken = desk.back_to(7)
            self.assertEqual(taken, states[len(states) - 21][2][7:][::-1])
            self.assertEqual(state(desk), states[7])
            self.assertEqual(answers(desk), answers(Desk(desk.table_now, desk.tolls)))
            desk.back_to(0)
            self.assertEqual((state(desk), desk.name), (states[0], "made"))

    def test_two_hundred_deeds(self):
        desk = Desk(TWO, (2, 1))
        for k in range(200):
            desk.set_number(0, 0, k)
        self.assertEqual((len(desk.deeds), desk.table_now[0]), (200, (199, 1)))
        self.assertEqual(len(desk.back_to(0)), 200)
        self.assertEqual(desk.table_now, TWO)


class CopyTest(unittest.TestCase):
    def test_a_copy_has_its_own_deeds(self):
        desk = Desk(TWO, (2, 1), name="two")
        desk.turn_row(0)
        desk.set_toll(1, 4)
        copy = desk.copy()
        self.assertIs(type(copy), Desk)
        self.assertEqual((state(copy), copy.name), (state(desk), "two"))
        before = state(desk)
        copy.put_row((1, 2))
        copy.name = "other"
        self.assertEqual((state(desk), desk.name), (before, "two"))
        self.assertEqual(copy.back_to(0), (("row", (1, 2), 2, 1), ("toll", 1, 4), ("turn row", 0)))
        self.assertEqual(state(copy), (TWO, (2, 1), ()))
        self.assertEqual(state(desk), before)
        copy = desk.copy()
        desk.back()
        self.assertEqual(state(copy), before)
        self.assertEqual(copy.back(), ("toll", 1, 4))


class QuestionsTest(unittest.TestCase):
    def test_as_the_functions_tell(self):
        for k, table in enumerate(some_tables(60, 482, (0, 3), (1, 4))):
            tolls = tuple(some_numbers(table.height, 483 + 31 * k * k, 0, 4))
            desk = Desk(table, tolls)
            self.assertIs(desk.serving(), serves(table, tolls))
            self.assertEqual(desk.failing(), failing_part(table, tolls))
            self.assertEqual(desk.lones(), lone_splits(table, tolls))
            self.assertIs(desk.firm(), is_firm(table))
            self.assertEqual(desk.loose(), loose_rows(tolls))
            self.assertEqual(desk.blocks(), blocks_of(table))
            rows = [i for i, q in enumerate(tolls) if q]
            if rows:
                self.assertEqual(desk.bound(rows), square_bound(tolls, rows))
            if desk.serving():
                row = some_numbers(table.columns, k, -4, 4)
                self.assertEqual(desk.room_for(row), toll_of_row(table, tolls, row))
                shares = [(j + 1, 7) for j in range(table.columns)]
                self.assertEqual(desk.near(shares), near_rounding(table, tolls, shares))
            self.assertIs(type(desk.lones()), list)
            self.assertIs(type(desk.blocks()), list)
            self.assertIs(type(desk.loose()), tuple)
            desk.lones().clear()
            self.assertEqual(desk.lones(), lone_splits(table, tolls))

    def test_example(self):
        desk = Desk(TWO, (2, 1))
        self.assertEqual((desk.serving(), desk.lones(), desk.room_for((3, 1))), (True, [(0, 1), (1, 0), (1, 1)], 4))
        desk.set_toll(1, 2)
        self.assertEqual(desk.room_for((3, 1)), 3)

    def test_errors(self):
        wide = Desk(Table.zeros(1, 8), (1,))
        for call in (wide.serving, wide.failing, wide.lones, wide.firm):
            self.assertEqual(error_of(call), ("TooMany", 7))
        self.assertEqual(error_of(wide.room_for, (0,) * 8), ("TooMany", 7))
        self.assertEqual(error_of(wide.room_for, (0,) * 7), ("OtherSize", 8))
        self.assertEqual(error_of(wide.room_for, None), ("BadNumbers", -1))
        self.assertEqual(error_of(wide.near, (0,) * 8), ("TooMany", 7))
        self.assertEqual(error_of(wide.near, (2,)), ("BadShares", 0))
        self.assertEqual(error_of(wide.bound, ()), ("BadSet", -1))
        self.assertEqual(error_of(wide.bound, (1,)), ("BadSet", 0))
        self.assertEqual(error_of(Desk(Table.zeros(1, 2), (0,)).bound, (0,)), ("NotMet", "tolls"))
        # 12 rows: the further row stands below for this question alone.
        self.assertEqual(Desk(Table.zeros(12, 2), (1,) * 12).room_for((3, 4)), 4)
        self.assertEqual((wide.blocks(), wide.loose(), wide.bound((0,))), ([], (), (1, 1)))


class RowsPutInTest(unittest.TestCase):
    def test_room(self):
        looked_at = 0
        for k, table in enumerate(some_tables(40, 484, (0, 3), (1, 3))):
            for tolls in itertools.islice(itertools.product(range(4), repeat=table.height), 0, None, 7):
                desk = Desk(table, tolls)
                row = tuple(some_numbers(table.columns, 485 + 31 * k * k, -3, 3))
                serving = desk.serving()
                room = desk.room_for(row) if serving else None
                for place in range(table.height + 1):
                    for toll in range(6):
                        desk.put_row(row, place, toll)
                        looked_at += serving
                        self.assertIs(desk.serving(), serving and toll >= room)
                        desk.back()
        self.assertTrue(looked_at > 300, looked_at)

    def test_what_never_ends_serving(self):
        for seed in range(5):
            source = stream(seed + 486)
            desk = Desk(Table([(1, 1), (0, 2)]), (1, 2))
            for _ in range(60):
                before = desk.serving()
                deed = next_deed(source, desk.table_now, desk.tolls, (4, 4))
                raised = deed[0] == "toll" and deed[2] >= desk.tolls[deed[1]]
                desk.do(deed)
                if deed[0] in ("drop row", "drop column") or raised:
                    self.assertTrue(desk.serving() or not before)
                if deed[0] in ("row", "column"):
                    self.assertTrue(before or not desk.serving())
                if not desk.serving() and next(source) % 2:
                    desk.set_tolls([sum(map(abs, row)) for row in desk.table_now])

    def test_least_tolls(self):
        for k, table in enumerate(some_tables(25, 487, (1, 3), (1, 4))):
            least = least_tolls(table)
            desk = Desk(table, (0,) * table.height)
            for tolls in itertools.islice(itertools.product(range(6), repeat=table.height), 0, None, 5):
                desk.set_tolls(tolls)
                each = any(all(a >= b for a, b in zip(tolls, q)) for q in least)
                self.assertEqual(desk.serving(), each)


class LonesTest(unittest.TestCase):
    def test_rows_that_go_in(self):
        looked_at = 0
        for k, table in enumerate(firm_tables(25, 488, (0, 3), (1, 4))):
            desk = Desk(table, ones(table))
            rows = rows_that_go_in(table)
            for row in rows[k % 5::5]:
                grown = grown_lones(table, row)
                for place in range(table.height + 1):
                    desk.put_row(row, place)
                    self.assertEqual(desk.lones(), grown)
                    desk.back()
                for other in rows[::7]:
                    if goes_in(table.with_row(row), other):
                        looked_at += 1
                        desk.put_row(row, 0)
                        desk.put_row(other)
                        lones = desk.lones()
                        desk.back_to(0)
                        desk.put_row(other, 0)
                        desk.put_row(row, 0)
                        self.assertEqual(desk.lones(), lones)
                        desk.back_to(0)
            lones = desk.lones()
            for i in range(table.height):
                desk.drop_row(i)
                self.assertTrue(set(desk.lones()) <= set(lones))
                desk.back()
        self.assertTrue(looked_at > 100, looked_at)

    def test_columns_taken_out(self):
        for k, table in enumerate(some_tables(50, 489, (0, 3), (2, 4))):
            desk = Desk(table, some_numbers(table.height, 490 + 31 * k * k, 0, 4))
            lones = desk.lones()
            for j in range(table.columns):
                desk.drop_column(j)
                self.assertEqual(desk.lones(), sorted(x[:j] + x[j + 1:] for x in lones if x[j] == 0))
                desk.back()

    def test_turning(self):
        for k, table in enumerate(some_tables(50, 491, (1, 3), (1, 4))):
            desk = Desk(table, some_numbers(table.height, 492 + 31 * k * k, 0, 4))
            lones = desk.lones()
            kept = desk.serving(), desk.failing(), desk.loose(), desk.blocks()
            for i in range(table.height):
                desk.turn_row(i)
                self.assertEqual((desk.serving(), desk.failing(), desk.loose(), desk.blocks()), kept)
                self.assertEqual(desk.lones(), lones)
                desk.back()
            for j in range(table.columns):
                desk.turn_column(j)
                self.assertEqual((desk.serving(), desk.failing(), desk.loose(), desk.blocks()), kept)
                turned = [x[:j] + (-x[j],) + x[j + 1:] for x in lones]
                self.assertEqual(desk.lones(), sorted(max(x, negative(x)) for x in turned))
                desk.back()

    def test_plain_deeds_are_those_of_the_tables(self):
        # The tests' own deeds once against the methods of tables.
        table, tolls = plain_done(TWO, (2, 1), ("row", (3, 4), 1, 5))
        self.assertEqual((table, tolls), (TWO.with_row((3, 4), 1), (2, 5, 1)))
        self.assertEqual(plain_done(TWO, (2, 1), ("turn column", 1))[0], TWO.turned_column(1))


if __name__ == "__main__":
    unittest.main()
