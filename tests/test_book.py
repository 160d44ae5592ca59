"""Points 4.1 and 4.2: undone writes, what stands and what is kept, the order, and what is written down."""

import unittest

from telling import hall_with


class TestNow(unittest.TestCase):
    def test_what_deeds_that_go_on_and_kept_ones_have_written_rising(self):
        hall = hall_with(3)
        hall.write(0, "zzzz", 1)
        hall.write(1, "aa", 2)
        hall.write(0, "b", 3)
        hall.write(2, "a", -4)
        hall.keep(0)
        self.assertEqual(hall.now(), (("a", -4), ("aa", 2), ("b", 3), ("zzzz", 1)))

    def test_0_too(self):
        hall = hall_with(1)
        hall.write(0, "a", 0)
        self.assertEqual(hall.now(), (("a", 0),))
        hall.keep(0)
        self.assertEqual((hall.now(), hall.kept_book()), ((("a", 0),), (("a", 0),)))

    def test_a_0_over_a_kept_value(self):
        hall = hall_with(2)
        hall.write(0, "a", 5)
        hall.keep(0)
        hall.write(1, "a", 0)
        self.assertEqual((hall.now(), hall.kept_book()), ((("a", 0),), (("a", 5),)))
        hall.keep(1)
        self.assertEqual(hall.kept_book(), (("a", 0),))

    def test_reads_leave_nothing_there(self):
        hall = hall_with(1)
        hall.read(0, "a")
        hall.keep(0)
        self.assertEqual((hall.now(), hall.kept_book()), ((), ()))

    def test_a_write_that_waits_is_not_there(self):
        hall = hall_with(2)
        hall.read(0, "a")
        hall.write(1, "a", 5)
        self.assertEqual((hall.now(), hall.log()), ((), (("begin", 0), ("begin", 1))))


class TestUndone(unittest.TestCase):
    def test_nothing_stood_there(self):
        hall = hall_with(1)
        hall.write(0, "a", 5)
        hall.write(0, "b", 0)
        hall.give_up(0)
        self.assertEqual((hall.now(), hall.kept_book(), hall.order()), ((), (), ()))

    def test_a_kept_value_stood_there(self):
        hall = hall_with(2)
        hall.write(0, "a", 5)
        hall.write(0, "b", 0)
        hall.keep(0)
        hall.write(1, "a", 6)
        hall.write(1, "b", 7)
        hall.write(1, "c", 8)
        self.assertEqual(hall.now(), (("a", 6), ("b", 7), ("c", 8)))
        hall.give_up(1)
        self.assertEqual((hall.now(), hall.kept_book()), ((("a", 5), ("b", 0)), (("a", 5), ("b", 0))))

    def test_a_second_write_under_the_same_key(self):
        hall = hall_with(3)
        hall.write(0, "a", 5)
        hall.keep(0)
        for key in ("a", "b"):
            hall.write(1, key, 6)
            hall.write(1, key, 7)
            hall.write(1, key, 6)
        hall.give_up(1)
        self.assertEqual(hall.now(), (("a", 5),))
        self.assertEqual((hall.read(2, "a"), hall.read(2, "b")), (("value", 5), ("value", 0)))

    def test_what_others_wrote_stays(self):
        hall = hall_with(2)
        hall.write(0, "a", 5)
        hall.write(1, "b", 6)
        hall.give_up(1)
        self.assertEqual(hall.now(), (("a", 5),))

    def test_ahead_of_what_follows(self):
        hall = hall_with(4)
        hall.write(0, "a", 5)
        hall.write(0, "b", 6)
        hall.read(1, "a")
        hall.read(2, "a")
        hall.write(3, "b", 7)
        hall.give_up(0)
        self.assertEqual((hall.done_by(1), hall.done_by(2)), ((("read", "a", 0),), (("read", "a", 0),)))
        self.assertEqual(hall.log()[-2:], (("give up", 0), ("write", 3, "b", 0, 7)))
        self.assertEqual(hall.now(), (("b", 7),))

    def test_of_one_given_up_while_it_waits(self):
        hall = hall_with(2)
        hall.write(1, "a", 5)
        hall.write(0, "b", 6)
        hall.write(1, "b", 7)
        hall.give_up(1)
        self.assertEqual(hall.now(), (("b", 6),))
        hall.give_up(0)
        self.assertEqual((hall.now(), hall.holders("b")), ((), ()))

    def test_of_one_given_up_because_all_waited_round(self):
        hall = hall_with(2)
        hall.write(0, "a", 1)
        hall.write(1, "b", 2)
        hall.write(1, "c", 3)
        hall.read(0, "b")
        self.assertEqual(hall.write(1, "a", 4), ("given up",))
        self.assertEqual((hall.now(), hall.done_by(0)[-1]), ((("a", 1),), ("read", "b", 0)))


class TestKeptBook(unittest.TestCase):
    def test_kept_deeds_alone(self):
        hall = hall_with(3)
        hall.write(0, "a", 1)
        hall.write(1, "b", 2)
        hall.write(2, "c", 3)
        hall.keep(1)
        hall.give_up(2)
        self.assertEqual((hall.kept_book(), hall.now()), ((("b", 2),), (("a", 1), ("b", 2))))

    def test_the_last_write_of_a_deed(self):
        hall = hall_with(1)
        for value in (3, 1, 2):
            hall.write(0, "a", value)
        hall.keep(0)
        self.assertEqual(hall.kept_book(), (("a", 2),))

    def test_the_last_value_by_the_order_in_which_they_were_kept(self):
        hall = hall_with(3)
        hall.write(2, "a", 1)
        hall.keep(2)
        hall.write(0, "a", 2)
        hall.keep(0)
        hall.write(1, "a", 3)
        self.assertEqual(hall.kept_book(), (("a", 2),))
        hall.keep(1)
        self.assertEqual(hall.kept_book(), (("a", 3),))

    def test_rising(self):
        hall = hall_with(1)
        for key in ("zzzz", "b", "aa", "a"):
            hall.write(0, key, 1)
        hall.keep(0)
        self.assertEqual([key for key, value in hall.kept_book()], ["a", "aa", "b", "zzzz"])


class TestOrder(unittest.TestCase):
    def test_as_they_were_kept(self):
        hall = hall_with(4)
        hall.keep(3)
        hall.give_up(0)
        hall.keep(1)
        self.assertEqual(hall.order(), (3, 1))
        hall.keep(2)
        self.assertEqual(hall.order(), (3, 1, 2))


class TestLog(unittest.TestCase):
    def test_in_order(self):
        hall = hall_with(2)
        hall.write(1, "a", 5)
        hall.read(1, "a")
        hall.write(1, "a", 6)
        hall.begin()
        hall.keep(1)
        hall.write(0, "a", 0)
        hall.give_up(0)
        hall.write(2, "a", 7)
        self.assertEqual(hall.log(), (
            ("begin", 0), ("begin", 1), ("write", 1, "a", 0, 5), ("write", 1, "a", 5, 6), ("begin", 2), ("keep", 1),
            ("write", 0, "a", 6, 0), ("give up", 0), ("write", 2, "a", 6, 7),
        ))

    def test_a_write_stands_there_as_it_is_done_and_not_as_it_begins_to_wait(self):
        hall = hall_with(3)
        hall.write(0, "a", 1)
        hall.write(1, "a", 2)
        hall.write(2, "b", 3)
        hall.keep(0)
        self.assertEqual(hall.log()[3:], (("write", 0, "a", 0, 1), ("write", 2, "b", 0, 3), ("keep", 0),
                                          ("write", 1, "a", 1, 2)))

    def test_ends_stand_ahead_of_what_follows(self):
        for end, row, before in (("keep", "keep", 1), ("give_up", "give up", 0)):
            hall = hall_with(2)
            hall.write(0, "a", 1)
            hall.write(1, "a", 2)
            getattr(hall, end)(0)
            self.assertEqual(hall.log()[3:], ((row, 0), ("write", 1, "a", before, 2)))

    def test_a_write_of_what_stood_there_is_written_down_too(self):
        hall = hall_with(1)
        hall.write(0, "a", 0)
        hall.write(0, "a", 0)
        self.assertEqual(hall.log()[1:], (("write", 0, "a", 0, 0), ("write", 0, "a", 0, 0)))

    def test_asking_writes_nothing_down(self):
        hall = hall_with(1)
        hall.write(0, "a", 1)
        before = hall.log()
        hall.read(0, "a")
        hall.state_of(0), hall.done_by(0), hall.holders("b"), hall.row_of("b"), hall.waits_for(0)
        hall.now(), hall.kept_book(), hall.order()
        self.assertEqual(hall.log(), before)


if __name__ == "__main__":
    unittest.main()
