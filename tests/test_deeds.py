"""Points 0.3, 0.4, 1.1 and 1.2: deeds, what they do, how they stand, and what is refused."""

import unittest

from telling import KEYS, all_told, hall_with, is_told_kind
from turnhall.errors import HallError, NoDeed, NotGoing
from turnhall.halls import Hall

# Every method that is handed a deed, called with one.
WITH_A_DEED = {
    "read": lambda hall, deed: hall.read(deed, "a"),
    "write": lambda hall, deed: hall.write(deed, "a", 7),
    "keep": lambda hall, deed: hall.keep(deed),
    "give_up": lambda hall, deed: hall.give_up(deed),
    "state_of": lambda hall, deed: hall.state_of(deed),
    "done_by": lambda hall, deed: hall.done_by(deed),
    "waits_for": lambda hall, deed: hall.waits_for(deed),
}


def hall_with_each_state():
    # 0 is kept, 1 given up, 2 goes on and holds a for writing, 3 waits for a.
    hall = hall_with(4)
    hall.write(0, "b", 1)
    hall.keep(0)
    hall.write(1, "b", 2)
    hall.give_up(1)
    hall.write(2, "a", 3)
    hall.write(3, "a", 4)
    return hall


class TestNewHall(unittest.TestCase):
    def test_no_deeds_and_nothing_in_the_book(self):
        hall = Hall()
        self.assertEqual((hall.now(), hall.kept_book(), hall.order(), hall.log()), ((), (), (), ()))
        for key in KEYS:
            self.assertEqual((hall.holders(key), hall.row_of(key)), ((), ()))
        with self.assertRaises(NoDeed):
            hall.state_of(0)

    def test_0_stands_under_each_key(self):
        hall = hall_with(1)
        for key in KEYS:
            self.assertEqual(hall.read(0, key), ("value", 0))

    def test_halls_have_nothing_in_common(self):
        one = hall_with(1)
        one.write(0, "a", 5)
        other = Hall()
        self.assertEqual(other.log(), ())
        self.assertEqual(other.begin(), 0)
        self.assertEqual(other.read(0, "a"), ("value", 0))
        self.assertEqual(other.write(0, "a", 6), ("done",))
        self.assertEqual(one.now(), (("a", 5),))


class TestBegin(unittest.TestCase):
    def test_numbers_from_0_on(self):
        hall = Hall()
        self.assertEqual([hall.begin() for again in range(5)], [0, 1, 2, 3, 4])

    def test_no_number_comes_twice(self):
        hall = hall_with(2)
        hall.keep(1)
        hall.give_up(0)
        self.assertEqual(hall.begin(), 2)
        self.assertEqual([hall.state_of(deed) for deed in range(3)], ["given up", "kept", "going"])


class TestReadAndWrite(unittest.TestCase):
    def test_a_write_is_done_and_read(self):
        hall = hall_with(1)
        self.assertEqual(hall.write(0, "a", 5), ("done",))
        self.assertEqual(hall.read(0, "a"), ("value", 5))
        self.assertEqual(hall.read(0, "aa"), ("value", 0))

    def test_a_value_is_any_whole_number(self):
        hall = hall_with(1)
        for value in (0, -1, 1, 10**5000, -(10**5000)):
            self.assertEqual(hall.write(0, "a", value), ("done",))
            self.assertEqual(hall.read(0, "a"), ("value", value))

    def test_keys_at_the_bounds_and_beyond(self):
        hall = hall_with(1)
        keys = ("a", "z", "zz", "aaaa", "zzzz", "aaaaa", "abcdefgh")
        for value, key in enumerate(keys):
            self.assertEqual(hall.write(0, key, value), ("done",))
        for value, key in enumerate(keys):
            self.assertEqual(hall.read(0, key), ("value", value))

    def test_a_read_waits_and_is_done_later(self):
        hall = hall_with(2)
        hall.write(0, "a", 5)
        self.assertEqual(hall.read(1, "a"), ("waits",))
        self.assertEqual((hall.state_of(1), hall.done_by(1)), ("waiting", ()))
        hall.keep(0)
        self.assertEqual((hall.state_of(1), hall.done_by(1)), ("going", (("read", "a", 5),)))

    def test_a_write_waits_and_is_done_later(self):
        hall = hall_with(2)
        hall.read(0, "a")
        self.assertEqual(hall.write(1, "a", 9), ("waits",))
        self.assertEqual((hall.state_of(1), hall.done_by(1), hall.now()), ("waiting", (), ()))
        hall.keep(0)
        self.assertEqual((hall.state_of(1), hall.done_by(1)), ("going", (("write", "a", 9),)))
        self.assertEqual(hall.now(), (("a", 9),))

    def test_given_up_is_told(self):
        for ask in (lambda hall: hall.read(1, "a"), lambda hall: hall.write(1, "a", 9)):
            hall = hall_with(2)
            hall.write(0, "a", 5)
            hall.write(1, "b", 6)
            self.assertEqual(hall.write(0, "b", 7), ("waits",))
            self.assertEqual(ask(hall), ("given up",))
            self.assertEqual(hall.state_of(1), "given up")

    def test_who_waits_only_within_the_call_is_told_what_came_of_it(self):
        asks = ((lambda hall: hall.read(0, "b"), ("value", 3)), (lambda hall: hall.write(0, "b", 8), ("done",)))
        for ask, answer in asks:
            hall = hall_with(2)
            before = hall.begin()
            hall.write(before, "b", 3)
            hall.keep(before)
            hall.write(0, "a", 5)
            hall.write(1, "b", 6)
            self.assertEqual(hall.read(1, "a"), ("waits",))
            self.assertEqual(ask(hall), answer)
            self.assertEqual([hall.state_of(deed) for deed in (0, 1)], ["going", "given up"])


class TestEnds(unittest.TestCase):
    def test_both_tell_none(self):
        hall = hall_with(2)
        self.assertIsNone(hall.keep(0))
        self.assertIsNone(hall.give_up(1))

    def test_a_deed_that_waits_may_be_given_up(self):
        hall = hall_with(2)
        hall.write(1, "b", 1)
        hall.write(0, "a", 5)
        hall.write(1, "a", 6)
        self.assertIsNone(hall.give_up(1))
        self.assertEqual((hall.state_of(1), hall.done_by(1)), ("given up", (("write", "b", 1),)))
        self.assertEqual((hall.row_of("a"), hall.waits_for(1), hall.now()), ((), (), (("a", 5),)))
        hall.keep(0)
        self.assertEqual((hall.state_of(1), hall.done_by(1)), ("given up", (("write", "b", 1),)))
        self.assertEqual((hall.holders("a"), hall.now()), ((), (("a", 5),)))


class TestStateAndDone(unittest.TestCase):
    def test_the_four_states(self):
        hall = hall_with_each_state()
        self.assertEqual([hall.state_of(deed) for deed in range(4)], ["kept", "given up", "going", "waiting"])

    def test_what_was_done_in_order(self):
        hall = hall_with(1)
        hall.read(0, "b")
        hall.write(0, "b", 4)
        hall.read(0, "b")
        hall.write(0, "a", 0)
        hall.write(0, "b", 4)
        done = (("read", "b", 0), ("write", "b", 4), ("read", "b", 4), ("write", "a", 0), ("write", "b", 4))
        self.assertEqual(hall.done_by(0), done)
        hall.keep(0)
        self.assertEqual(hall.done_by(0), done)

    def test_what_was_done_stays_when_given_up(self):
        hall = hall_with(1)
        hall.write(0, "a", 4)
        hall.read(0, "a")
        hall.give_up(0)
        self.assertEqual(hall.done_by(0), (("write", "a", 4), ("read", "a", 4)))

    def test_a_read_stays_as_it_was_done(self):
        hall = hall_with(2)
        hall.read(0, "a")
        hall.keep(0)
        hall.write(1, "a", 4)
        self.assertEqual(hall.done_by(0), (("read", "a", 0),))

    def test_done_by_a_deed_that_did_nothing(self):
        hall = hall_with(2)
        hall.keep(1)
        self.assertEqual((hall.done_by(0), hall.done_by(1)), ((), ()))


class TestNoDeed(unittest.TestCase):
    def test_numbers_below_0_and_beyond_the_last(self):
        for name, call in WITH_A_DEED.items():
            for number in (-1, -2, -4, -5, 4, 5, 1000, 10**5000, -(10**5000)):
                hall = hall_with_each_state()
                before = all_told(hall)
                with self.subTest(method=name, number=number.bit_length()), self.assertRaises(NoDeed):
                    call(hall, number)
                self.assertEqual(all_told(hall), before)

    def test_no_number_in_an_empty_hall(self):
        for name, call in WITH_A_DEED.items():
            for number in (-1, 0, 1):
                hall = Hall()
                with self.subTest(method=name, number=number), self.assertRaises(NoDeed):
                    call(hall, number)
                self.assertEqual(all_told(hall), all_told(Hall()))

    def test_the_last_number_is_one(self):
        for name, call in WITH_A_DEED.items():
            hall = hall_with(3)
            with self.subTest(method=name):
                call(hall, 2)
                with self.assertRaises(NoDeed):
                    call(hall, 3)

    def test_ahead_of_not_going(self):
        # Counted from the last one back, each of these is a deed that is at its end or waits.
        hall = hall_with_each_state()
        for name in ("read", "write", "keep", "give_up"):
            for number in (-1, -3, -4):
                with self.subTest(method=name, number=number), self.assertRaises(NoDeed):
                    WITH_A_DEED[name](hall, number)

    def test_truths_are_no_numbers_of_deeds(self):
        for name, call in WITH_A_DEED.items():
            with self.subTest(method=name), self.assertRaises(NoDeed):
                call(hall_with_each_state(), True)


class TestNotGoing(unittest.TestCase):
    def refused(self, name, number):
        hall = hall_with_each_state()
        before = all_told(hall)
        with self.subTest(method=name, number=number):
            with self.assertRaises(NotGoing) as taken:
                WITH_A_DEED[name](hall, number)
            self.assertIsInstance(taken.exception, HallError)
            self.assertNotIsInstance(taken.exception, NoDeed)
        self.assertEqual(all_told(hall), before)

    def test_read_write_and_keep_of_one_that_waits_or_is_at_its_end(self):
        for name in ("read", "write", "keep"):
            for number in (0, 1, 3):
                self.refused(name, number)

    def test_give_up_of_one_that_is_at_its_end(self):
        for number in (0, 1):
            self.refused("give_up", number)

    def test_under_a_key_that_nobody_has_touched(self):
        for number in (0, 1, 3):
            hall = hall_with_each_state()
            before = all_told(hall)
            with self.assertRaises(NotGoing):
                hall.read(number, "zzzz")
            with self.assertRaises(NotGoing):
                hall.write(number, "zzzz", 1)
            self.assertEqual(all_told(hall), before)

    def test_of_one_given_up_because_all_waited_round(self):
        hall = hall_with(2)
        hall.write(0, "a", 1)
        hall.write(1, "b", 2)
        hall.read(0, "b")
        hall.read(1, "a")
        for name in ("read", "write", "keep", "give_up"):
            with self.subTest(method=name), self.assertRaises(NotGoing):
                WITH_A_DEED[name](hall, 1)

    def test_what_is_told_of_a_deed_is_told_in_every_state(self):
        hall = hall_with_each_state()
        for name in ("state_of", "done_by", "waits_for"):
            for number in range(4):
                WITH_A_DEED[name](hall, number)

    def test_one_that_waited_goes_on(self):
        hall = hall_with_each_state()
        hall.keep(2)
        self.assertEqual(hall.read(3, "a"), ("value", 4))
        self.assertEqual(hall.write(3, "b", 5), ("done",))
        self.assertIsNone(hall.keep(3))


class TestKinds(unittest.TestCase):
    def test_tuples_texts_whole_numbers_and_none(self):
        hall = hall_with_each_state()
        for told in all_told(hall).values():
            parts = told if isinstance(told, list) else [told]
            for part in parts:
                self.assertTrue(is_told_kind(part), part)
        for answer in (hall.begin(), hall.read(4, "b"), hall.write(4, "c", 1), hall.read(4, "a"), hall.keep(2)):
            self.assertTrue(is_told_kind(answer), answer)
        self.assertTrue(is_told_kind(hall.give_up(3)))

    def test_equal_halls_tell_equal_things(self):
        self.assertEqual(all_told(hall_with_each_state()), all_told(hall_with_each_state()))

    def test_what_was_told_does_not_change(self):
        hall = hall_with_each_state()
        told = all_told(hall)
        copied = {name: list(part) for name, part in told.items()}
        hall.keep(2)
        hall.keep(3)
        self.assertEqual({name: list(part) for name, part in told.items()}, copied)


if __name__ == "__main__":
    unittest.main()
