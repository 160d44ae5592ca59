"""Points 2.1, 2.2 and 2.3: who holds a key, who waits in its row and where, and what follows an end."""

import unittest

from telling import hall_with

READING = "reading"
WRITING = "writing"


class TestHolding(unittest.TestCase):
    def test_nobody_at_first(self):
        hall = hall_with(1)
        self.assertEqual((hall.holders("a"), hall.row_of("a")), ((), ()))

    def test_who_reads_and_who_writes(self):
        hall = hall_with(2)
        hall.read(0, "a")
        hall.write(1, "b", 1)
        self.assertEqual(hall.holders("a"), ((0, READING),))
        self.assertEqual(hall.holders("b"), ((1, WRITING),))
        self.assertEqual(hall.holders("aa"), ())

    def test_several_for_reading_rising_by_deeds(self):
        hall = hall_with(11)
        for deed in (10, 2, 0, 9):
            self.assertEqual(hall.read(deed, "a"), ("value", 0))
        self.assertEqual(hall.holders("a"), ((0, READING), (2, READING), (9, READING), (10, READING)))
        self.assertEqual(hall.row_of("a"), ())

    def test_one_alone_for_writing(self):
        hall = hall_with(3)
        hall.write(1, "a", 1)
        self.assertEqual(hall.read(0, "a"), ("waits",))
        self.assertEqual(hall.write(2, "a", 2), ("waits",))
        self.assertEqual(hall.holders("a"), ((1, WRITING),))
        self.assertEqual(hall.row_of("a"), ((0, READING), (2, WRITING)))

    def test_nobody_writes_beside_one_that_reads(self):
        hall = hall_with(2)
        hall.read(1, "a")
        self.assertEqual(hall.write(0, "a", 1), ("waits",))
        self.assertEqual((hall.holders("a"), hall.row_of("a")), (((1, READING),), ((0, WRITING),)))

    def test_keys_are_held_to_the_end(self):
        hall = hall_with(2)
        hall.read(0, "a")
        hall.write(0, "b", 1)
        hall.read(0, "c")
        self.assertEqual(hall.holders("a"), ((0, READING),))
        self.assertEqual(hall.holders("b"), ((0, WRITING),))
        hall.keep(0)
        self.assertEqual([hall.holders(key) for key in "abc"], [(), (), ()])

    def test_who_holds_it_for_writing_reads_and_holds_it_for_writing_still(self):
        hall = hall_with(2)
        hall.write(0, "a", 5)
        self.assertEqual(hall.read(0, "a"), ("value", 5))
        self.assertEqual(hall.holders("a"), ((0, WRITING),))
        self.assertEqual(hall.read(1, "a"), ("waits",))

    def test_who_holds_it_needs_nothing_more_though_others_wait(self):
        hall = hall_with(3)
        hall.write(0, "a", 5)
        hall.write(1, "a", 6)
        self.assertEqual(hall.read(0, "a"), ("value", 5))
        self.assertEqual(hall.write(0, "a", 7), ("done",))
        self.assertEqual(hall.row_of("a"), ((1, WRITING),))
        hall.read(2, "b")
        hall.write(0, "b", 8)
        self.assertEqual(hall.read(2, "b"), ("value", 0))
        self.assertEqual((hall.holders("b"), hall.row_of("b")), (((2, READING),), ((0, WRITING),)))

    def test_several_read_again_though_one_waits(self):
        hall = hall_with(3)
        hall.read(0, "a")
        hall.read(1, "a")
        hall.write(2, "a", 1)
        self.assertEqual((hall.read(0, "a"), hall.read(1, "a")), (("value", 0), ("value", 0)))
        self.assertEqual(hall.holders("a"), ((0, READING), (1, READING)))


class TestReadThenWrite(unittest.TestCase):
    def test_alone(self):
        hall = hall_with(1)
        hall.read(0, "a")
        self.assertEqual(hall.write(0, "a", 3), ("done",))
        self.assertEqual(hall.holders("a"), ((0, WRITING),))

    def test_alone_ahead_of_those_that_wait(self):
        hall = hall_with(3)
        hall.read(0, "a")
        hall.write(1, "a", 1)
        hall.read(2, "a")
        self.assertEqual(hall.write(0, "a", 3), ("done",))
        self.assertEqual(hall.holders("a"), ((0, WRITING),))
        self.assertEqual(hall.row_of("a"), ((1, WRITING), (2, READING)))

    def test_beside_another_at_the_front_of_the_row(self):
        hall = hall_with(4)
        hall.read(0, "a")
        hall.read(1, "a")
        hall.write(2, "a", 2)
        hall.read(3, "a")
        self.assertEqual(hall.write(1, "a", 9), ("waits",))
        self.assertEqual(hall.row_of("a"), ((1, WRITING), (2, WRITING), (3, READING)))
        self.assertEqual(hall.holders("a"), ((0, READING), (1, READING)))

    def test_goes_on_when_the_other_is_at_its_end(self):
        hall = hall_with(3)
        hall.read(0, "a")
        hall.read(1, "a")
        hall.read(2, "a")
        hall.write(1, "a", 9)
        hall.keep(0)
        self.assertEqual(hall.state_of(1), "waiting")
        hall.give_up(2)
        self.assertEqual((hall.state_of(1), hall.holders("a"), hall.row_of("a")), ("going", ((1, WRITING),), ()))
        self.assertEqual(hall.done_by(1), (("read", "a", 0), ("write", "a", 9)))

    def test_of_two_keys_each_counts_for_itself(self):
        hall = hall_with(2)
        hall.read(0, "a")
        hall.write(1, "aa", 1)
        self.assertEqual(hall.write(0, "aa", 2), ("waits",))
        self.assertEqual((hall.holders("a"), hall.row_of("aa")), (((0, READING),), ((0, WRITING),)))


class TestRow(unittest.TestCase):
    def test_a_read_waits_behind_one_that_waits_though_those_that_hold_it_would_let_it(self):
        hall = hall_with(3)
        hall.read(0, "a")
        hall.write(1, "a", 1)
        self.assertEqual(hall.read(2, "a"), ("waits",))
        self.assertEqual(hall.row_of("a"), ((1, WRITING), (2, READING)))

    def test_at_the_end_of_the_row_whatever_the_number(self):
        hall = hall_with(5)
        hall.write(2, "a", 1)
        for deed in (4, 0, 3, 1):
            hall.read(deed, "a")
        self.assertEqual(hall.row_of("a"), ((4, READING), (0, READING), (3, READING), (1, READING)))

    def test_each_key_has_a_row_of_its_own(self):
        hall = hall_with(4)
        hall.write(0, "a", 1)
        hall.write(0, "b", 1)
        hall.read(1, "b")
        hall.write(2, "a", 1)
        self.assertEqual((hall.row_of("a"), hall.row_of("b")), (((2, WRITING),), ((1, READING),)))
        self.assertEqual(hall.read(3, "c"), ("value", 0))

    def test_an_upgrade_that_waits_keeps_a_new_reader_waiting(self):
        hall = hall_with(3)
        hall.read(0, "a")
        hall.read(1, "a")
        hall.write(0, "a", 1)
        self.assertEqual(hall.read(2, "a"), ("waits",))
        self.assertEqual(hall.row_of("a"), ((0, WRITING), (2, READING)))


class TestEnd(unittest.TestCase):
    def test_the_first_alone_if_it_writes(self):
        hall = hall_with(4)
        hall.write(0, "a", 1)
        hall.write(1, "a", 2)
        hall.write(2, "a", 3)
        hall.read(3, "a")
        hall.keep(0)
        self.assertEqual(hall.holders("a"), ((1, WRITING),))
        self.assertEqual(hall.row_of("a"), ((2, WRITING), (3, READING)))
        self.assertEqual([hall.state_of(deed) for deed in range(4)], ["kept", "going", "waiting", "waiting"])

    def test_one_end_lets_several_go_on_up_to_one_that_is_not_let(self):
        hall = hall_with(6)
        hall.write(0, "a", 1)
        hall.read(5, "a")
        hall.read(1, "a")
        hall.read(3, "a")
        hall.write(2, "a", 2)
        hall.read(4, "a")
        hall.keep(0)
        self.assertEqual(hall.holders("a"), ((1, READING), (3, READING), (5, READING)))
        self.assertEqual(hall.row_of("a"), ((2, WRITING), (4, READING)))
        for deed in (1, 3, 5):
            self.assertEqual(hall.done_by(deed), (("read", "a", 1),))

    def test_one_of_several_readers_at_its_end_lets_no_writer(self):
        hall = hall_with(3)
        hall.read(0, "a")
        hall.read(1, "a")
        hall.write(2, "a", 5)
        hall.keep(0)
        self.assertEqual((hall.holders("a"), hall.row_of("a")), (((1, READING),), ((2, WRITING),)))
        hall.give_up(1)
        self.assertEqual((hall.holders("a"), hall.row_of("a")), (((2, WRITING),), ()))

    def test_the_end_of_the_first_in_the_row_lets_those_behind_it(self):
        hall = hall_with(5)
        hall.read(0, "a")
        hall.write(1, "a", 1)
        hall.read(2, "a")
        hall.read(3, "a")
        hall.write(4, "a", 2)
        hall.give_up(1)
        self.assertEqual(hall.holders("a"), ((0, READING), (2, READING), (3, READING)))
        self.assertEqual(hall.row_of("a"), ((4, WRITING),))

    def test_the_end_of_one_within_the_row(self):
        hall = hall_with(4)
        hall.write(0, "a", 1)
        hall.write(1, "a", 2)
        hall.write(2, "a", 3)
        hall.write(3, "a", 4)
        hall.give_up(2)
        self.assertEqual(hall.row_of("a"), ((1, WRITING), (3, WRITING)))
        hall.give_up(3)
        self.assertEqual(hall.row_of("a"), ((1, WRITING),))

    def test_the_end_of_an_upgrade_that_waits(self):
        hall = hall_with(4)
        hall.read(0, "a")
        hall.read(1, "a")
        hall.read(2, "b")
        hall.write(1, "a", 1)
        hall.read(2, "a")
        hall.write(3, "a", 2)
        hall.give_up(1)
        self.assertEqual(hall.holders("a"), ((0, READING), (2, READING)))
        self.assertEqual(hall.row_of("a"), ((3, WRITING),))

    def test_key_by_key_in_rising_order(self):
        hall = hall_with(5)
        for key in ("b", "zzzz", "a", "aa"):
            hall.write(0, key, 1)
        for deed, key in ((1, "zzzz"), (2, "b"), (3, "a"), (4, "aa")):
            hall.write(deed, key, deed + 10)
        hall.keep(0)
        follows = hall.log()[hall.log().index(("keep", 0)) + 1:]
        self.assertEqual(follows, (("write", 3, "a", 1, 13), ("write", 4, "aa", 1, 14), ("write", 2, "b", 1, 12),
                                   ("write", 1, "zzzz", 1, 11)))

    def test_key_by_key_when_given_up_while_it_waits(self):
        hall = hall_with(5)
        hall.write(1, "c", 1)
        hall.write(1, "a", 1)
        hall.read(0, "b")
        hall.write(1, "b", 1)
        hall.read(2, "b")
        hall.write(3, "c", 3)
        hall.write(4, "a", 4)
        hall.give_up(1)
        follows = hall.log()[hall.log().index(("give up", 1)) + 1:]
        self.assertEqual(follows, (("write", 4, "a", 0, 4), ("write", 3, "c", 0, 3)))
        self.assertEqual((hall.holders("b"), hall.row_of("b")), (((0, READING), (2, READING)), ()))

    def test_holds_nothing_and_waits_for_nothing(self):
        for end in ("keep", "give_up"):
            hall = hall_with(1)
            hall.read(0, "a")
            hall.write(0, "b", 1)
            getattr(hall, end)(0)
            self.assertEqual([hall.holders(key) for key in "ab"], [(), ()])
            self.assertEqual(hall.waits_for(0), ())

    def test_one_let_on_may_end_and_let_on_the_next(self):
        hall = hall_with(3)
        for deed in range(3):
            hall.write(deed, "a", deed + 1)
        hall.keep(0)
        hall.keep(1)
        self.assertEqual((hall.holders("a"), hall.row_of("a"), hall.now()), (((2, WRITING),), (), (("a", 3),)))


if __name__ == "__main__":
    unittest.main()
