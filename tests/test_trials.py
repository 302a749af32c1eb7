"""Deeds that are tried on a copy or in a block."""

import unittest

from deskers import some_deeds
from makers import WRONG_KINDS, error_of, some_numbers, some_tables
from splitnumbers.desks import Desk
from splitnumbers.errors import BadSpot, Trouble
from splitnumbers.tables import Table
from splitnumbers.trials import Trial, tried

TWO = Table([(1, 1), (1, -1)])


def state(desk):
    return desk.table_now, desk.tolls, desk.deeds


def made():
    desk = Desk(TWO, (1, 1), name="two")
    desk.turn_row(1)
    return desk


class Stop(Exception):
    """An error of the tests' own."""


class TriedTest(unittest.TestCase):
    def test_what_the_question_tells(self):
        desk = made()
        before = state(desk)
        deeds = [("toll", 0, 2), ["row", [3, 1], 0, 9]]
        self.assertEqual(tried(desk, deeds, lambda work: (work.serving(), work.tolls, work.deeds, work.name)),
                         (True, (9, 2, 1), (("turn row", 1), ("toll", 0, 2), ("row", (3, 1), 0, 9)), "two"))
        self.assertEqual((state(desk), deeds), (before, [("toll", 0, 2), ["row", [3, 1], 0, 9]]))
        self.assertIs(tried(desk, (), lambda work: work.serving()), False)
        self.assertIsNone(tried(desk, tuple(deeds), lambda work: None))
        self.assertEqual(state(desk), before)

    def test_the_question_may_change_its_copy(self):
        desk = made()
        before = state(desk)

        def question(work):
            self.assertIsNot(work, desk)
            work.back_to(0)
            work.put_column((5, 5))
            work.name = "other"
            return work

        work = tried(desk, [("toll", 0, 2)], question)
        self.assertEqual((state(desk), desk.name), (before, "two"))
        self.assertEqual((work.table_now, work.name), (Table([(1, 1, 5), (1, -1, 5)]), "other"))

    def test_errors(self):
        desk = made()
        before = state(desk)
        asked = []
        for wrong in WRONG_KINDS:
            self.assertEqual(error_of(tried, desk, wrong, asked.append), ("BadDeed", "deeds"))
        self.assertEqual(error_of(tried, desk, [("toll", 0, 2), ("toll", 5, 1), None], asked.append), ("BadSpot", "row"))
        self.assertEqual(error_of(tried, desk, [("toll", 0, 2), None], asked.append), ("BadDeed", "kind"))
        self.assertEqual(error_of(tried, desk, ("toll", 0, 2), asked.append), ("BadDeed", "kind"))
        self.assertEqual(asked, [])
        self.assertEqual(state(desk), before)

    def test_errors_of_the_question(self):
        desk = made()
        before = state(desk)

        def question(work):
            work.put_row((1, 1))
            raise Stop()

        with self.assertRaises(Stop):
            tried(desk, [("toll", 0, 2)], question)
        self.assertEqual(error_of(tried, desk, [], lambda work: work.do(("toll", 9, 1))), ("BadSpot", "row"))
        self.assertEqual(state(desk), before)

    def test_many_deeds(self):
        for seed in range(6):
            table = list(some_tables(1, seed + 501, (0, 3), (1, 3)))[0]
            desk = Desk(table, some_numbers(table.height, seed, 0, 3))
            deeds = [deed for deed, _, _ in some_deeds(30, seed * seed * 77 + 13, table, desk.tolls)]
            for deed in deeds[:10]:
                desk.do(deed)
            before = state(desk)
            other = Desk(table, some_numbers(table.height, seed, 0, 3))
            for deed in deeds:
                other.do(deed)
            self.assertEqual(tried(desk, deeds[10:], state), state(other))
            self.assertEqual(state(desk), before)


class TrialTest(unittest.TestCase):
    def test_the_desk_is_as_it_was(self):
        desk = made()
        before = state(desk)
        with Trial(desk) as work:
            self.assertIs(work, desk)
            work.set_toll(0, 2)
            work.put_column((1, 1), 0)
            self.assertEqual(len(desk.deeds), 3)
        self.assertEqual((state(desk), desk.name), (before, "two"))
        self.assertEqual(desk.back(), ("turn row", 1))
        self.assertEqual(Trial.KIND, "trial")
        self.assertEqual(Trial(desk).KIND, "trial")

    def test_older_deeds_taken_back(self):
        desk = made()
        before = state(desk)
        with Trial(desk) as work:
            work.back()
            work.drop_row(0)
            work.back_to(0)
            work.drop_column(1)
        self.assertEqual(state(desk), before)
        with Trial(desk) as work:
            work.back_to(0)
        self.assertEqual(state(desk), before)
        self.assertEqual((desk.back(), state(desk)), (("turn row", 1), (TWO, (1, 1), ())))

    def test_the_name_is_left(self):
        desk = made()
        with Trial(desk) as work:
            work.name = "other"
            work.turn_row(0)
        self.assertEqual((desk.name, desk.deeds), ("other", (("turn row", 1),)))

    def test_errors_leave_the_block(self):
        desk = made()
        before = state(desk)
        with self.assertRaises(Stop):
            with Trial(desk) as work:
                work.set_toll(0, 2)
                raise Stop()
        self.assertEqual(state(desk), before)
        with self.assertRaises(BadSpot):
            with Trial(desk) as work:
                work.back()
                work.drop_row(7)
        self.assertEqual(state(desk), before)

        def returning():
            with Trial(desk) as work:
                work.set_toll(0, 9)
                return work.tolls

        self.assertEqual(returning(), (9, 1))
        self.assertEqual(state(desk), before)

    def test_entered_again_and_nested(self):
        desk = made()
        trial = Trial(desk)
        desk.set_toll(1, 5)
        # What held when the block was entered counts, not when the object was made.
        for toll in (3, 4):
            with trial as work:
                work.set_toll(0, toll)
            self.assertEqual(desk.tolls, (1, 5))
            desk.set_toll(1, 5)
        self.assertEqual(len(desk.deeds), 4)
        with Trial(desk) as outer:
            outer.set_toll(0, 7)
            with Trial(desk) as inner:
                inner.back_to(0)
                self.assertEqual(desk.deeds, ())
            self.assertEqual(desk.tolls, (7, 5))
        self.assertEqual((desk.tolls, len(desk.deeds)), ((1, 5), 4))

    def test_a_refused_deed_in_a_block(self):
        desk = made()
        with Trial(desk) as work:
            with self.assertRaises(Trouble):
                work.set_toll(0, -1)
            self.assertEqual(len(work.deeds), 1)


if __name__ == "__main__":
    unittest.main()
