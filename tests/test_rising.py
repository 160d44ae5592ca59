"""Points 4.2 and 4.3: the book and the deeds that go on, from what is written down; halls risen from it."""

import unittest

from telling import KEYS, all_told, hall_with, is_told_kind
from turnhall.errors import NoDeed, NotGoing
from turnhall.halls import Hall
from turnhall.rising import book_of, going_in, risen

LOG = (
    ("begin", 0), ("begin", 1), ("begin", 2), ("write", 1, "b", 0, 4), ("write", 1, "a", 0, 5), ("write", 0, "c", 0, 0),
    ("write", 1, "b", 4, 6), ("keep", 1), ("write", 2, "b", 6, 7), ("begin", 3), ("give up", 2), ("write", 3, "b", 6, 8),
    ("keep", 0), ("keep", 3),
)


def hall_of_the_log():
    hall = hall_with(3)
    hall.write(1, "b", 4)
    hall.write(1, "a", 5)
    hall.write(0, "c", 0)
    hall.write(1, "b", 6)
    hall.write(2, "b", 7)
    hall.keep(1)
    hall.begin()
    hall.write(3, "b", 8)
    hall.give_up(2)
    hall.keep(0)
    hall.keep(3)
    return hall


class TestBookOf(unittest.TestCase):
    def test_the_log_is_one(self):
        self.assertEqual(hall_of_the_log().log(), LOG)

    def test_of_nothing(self):
        self.assertEqual(book_of(()), ())

    def test_of_each_beginning(self):
        at_first = (("a", 5), ("b", 6))
        books = [()] * 8 + [at_first] * 5 + [(("a", 5), ("b", 6), ("c", 0)), (("a", 5), ("b", 8), ("c", 0))]
        self.assertEqual([book_of(LOG[:cut]) for cut in range(len(LOG) + 1)], books)

    def test_one_kept_without_a_write(self):
        self.assertEqual(book_of((("begin", 0), ("keep", 0))), ())

    def test_the_last_of_several_writes(self):
        rows = (("begin", 0), ("write", 0, "a", 0, 1), ("write", 0, "a", 1, 2), ("keep", 0))
        self.assertEqual(book_of(rows), (("a", 2),))

    def test_one_given_up_behind_a_kept_one_under_the_same_key(self):
        rows = (("begin", 0), ("begin", 1), ("write", 0, "a", 0, 1), ("keep", 0), ("write", 1, "a", 1, 2), ("give up", 1))
        self.assertEqual([book_of(rows[:cut]) for cut in range(7)], [(), (), (), ()] + [(("a", 1),)] * 3)


class TestGoingIn(unittest.TestCase):
    def test_of_nothing(self):
        self.assertEqual(going_in(()), ())

    def test_of_each_beginning(self):
        going = [(), (0,), (0, 1)] + [(0, 1, 2)] * 5 + [(0, 2), (0, 2), (0, 2, 3), (0, 3), (0, 3), (3,), ()]
        self.assertEqual([going_in(LOG[:cut]) for cut in range(len(LOG) + 1)], going)

    def test_one_that_waits_is_at_no_end(self):
        hall = hall_with(3)
        hall.write(2, "a", 1)
        hall.read(1, "a")
        self.assertEqual(going_in(hall.log()), (0, 1, 2))

    def test_rising_as_numbers_rise(self):
        self.assertEqual(going_in(hall_with(12).log()), tuple(range(12)))


class TestRisen(unittest.TestCase):
    def test_of_nothing(self):
        hall = risen(())
        self.assertIs(type(hall), Hall)
        self.assertEqual(all_told(hall), all_told(Hall()))
        self.assertEqual(hall.begin(), 0)

    def test_its_log_is_the_beginning_and_who_was_given_up_then(self):
        for cut in range(len(LOG) + 1):
            ends = tuple([("give up", deed) for deed in going_in(LOG[:cut])])
            self.assertEqual(risen(LOG[:cut]).log(), LOG[:cut] + ends)

    def test_the_whole_log(self):
        hall = hall_of_the_log()
        again = risen(LOG)
        self.assertEqual(all_told(again), all_told(hall))

    def test_kept_deeds_and_the_book(self):
        orders = [()] * 8 + [(1,)] * 5 + [(1, 0), (1, 0, 3)]
        for cut, order in enumerate(orders):
            hall = risen(LOG[:cut])
            self.assertEqual(hall.order(), order)
            self.assertEqual((hall.kept_book(), hall.now()), (book_of(LOG[:cut]), book_of(LOG[:cut])))
            begun = len([row for row in LOG[:cut] if row[0] == "begin"])
            self.assertEqual([hall.state_of(deed) for deed in range(begun)],
                             ["kept" if deed in order else "given up" for deed in range(begun)])

    def test_nobody_holds_or_waits(self):
        for cut in range(len(LOG) + 1):
            hall = risen(LOG[:cut])
            told = all_told(hall)
            self.assertEqual(set(told["holders"] + told["row_of"] + told["waits_for"]) - {()}, set())

    def test_of_what_was_done_the_writes_alone(self):
        hall = hall_with(3)
        hall.read(0, "a")
        hall.write(0, "b", 1)
        hall.read(0, "b")
        hall.write(0, "b", 2)
        hall.keep(0)
        hall.read(1, "b")
        hall.write(1, "c", 3)
        hall.read(2, "d")
        hall.give_up(2)
        again = risen(hall.log())
        self.assertEqual([again.done_by(deed) for deed in range(3)],
                         [(("write", "b", 1), ("write", "b", 2)), (("write", "c", 3),), ()])
        self.assertEqual([again.state_of(deed) for deed in range(3)], ["kept", "given up", "given up"])

    def test_those_at_no_end_are_given_up_in_rising_order(self):
        hall = hall_with(3)
        hall.write(2, "a", 1)
        hall.write(0, "a", 2)
        hall.write(1, "b", 3)
        self.assertEqual(risen(hall.log()).log()[-3:], (("give up", 0), ("give up", 1), ("give up", 2)))

    def test_one_that_waited_does_not_go_on(self):
        hall = hall_with(2)
        hall.write(0, "a", 1)
        hall.write(1, "a", 2)
        again = risen(hall.log())
        self.assertEqual((again.now(), again.done_by(1)), ((), ()))

    def test_a_risen_hall_goes_on(self):
        hall = risen(LOG[:9])
        self.assertEqual(hall.begin(), 3)
        self.assertEqual(hall.read(3, "b"), ("value", 6))
        self.assertEqual(hall.write(3, "b", 9), ("done",))
        self.assertEqual(hall.begin(), 4)
        self.assertEqual(hall.read(4, "b"), ("waits",))
        hall.keep(3)
        self.assertEqual((hall.done_by(4), hall.order()), ((("read", "b", 9),), (1, 3)))
        for deed in (0, 1, 2, 3):
            with self.assertRaises(NotGoing):
                hall.read(deed, "a")
        with self.assertRaises(NoDeed):
            hall.read(5, "a")

    def test_risen_twice(self):
        for cut in range(len(LOG) + 1):
            once = risen(LOG[:cut])
            self.assertEqual(all_told(risen(once.log())), all_told(once))

    def test_the_other_hall_is_left_as_it_was(self):
        hall = hall_with(1)
        hall.write(0, "a", 1)
        before = all_told(hall)
        risen(hall.log()).begin()
        self.assertEqual(all_told(hall), before)
        self.assertEqual(hall.write(0, "a", 2), ("done",))

    def test_a_fall_within_all_that_follows_one_act(self):
        hall = hall_with(3)
        hall.write(0, "a", 1)
        hall.write(0, "b", 1)
        hall.write(1, "a", 2)
        hall.write(2, "b", 3)
        hall.keep(0)
        rows = hall.log()
        self.assertEqual(rows[5:], (("keep", 0), ("write", 1, "a", 1, 2), ("write", 2, "b", 1, 3)))
        for cut in (6, 7, 8):
            again = risen(rows[:cut])
            self.assertEqual((again.now(), again.order()), ((("a", 1), ("b", 1)), (0,)))
            self.assertEqual(len(again.done_by(1)) + len(again.done_by(2)), cut - 6)


class TestHandedIn(unittest.TestCase):
    def test_rows_are_not_changed(self):
        for rows in (LOG, list(LOG)):
            book_of(rows)
            going_in(rows)
            risen(rows).begin()
            self.assertEqual(tuple(rows), LOG)

    def test_kinds(self):
        for cut in range(len(LOG) + 1):
            self.assertTrue(is_told_kind(book_of(LOG[:cut])))
            self.assertTrue(is_told_kind(going_in(LOG[:cut])))
            for told in all_told(risen(LOG[:cut]), KEYS).values():
                self.assertTrue(is_told_kind(tuple(told)))


if __name__ == "__main__":
    unittest.main()
