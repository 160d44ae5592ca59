"""Points 3.1 and 3.2: for whom a deed waits, and who is given up where deeds wait for one another all round."""

import unittest

from telling import hall_with


def states(hall, deeds):
    return [hall.state_of(deed) for deed in range(deeds)]


def given_up_in(hall):
    return [row[1] for row in hall.log() if row[0] == "give up"]


def ring_of(hall, deeds):
    # Each holds a key, and each but the last asks for the key of the next one.
    keys = ["k" + "abcdefghijklmnopqrstuvwxyz"[deed // 26 % 26] + "abcdefghijklmnopqrstuvwxyz"[deed % 26]
            for deed in range(len(deeds))]
    for deed, key in zip(deeds, keys):
        hall.write(deed, key, deed)
    for place, deed in enumerate(deeds[:-1]):
        hall.read(deed, keys[place + 1])
    return keys


class TestWaitsFor(unittest.TestCase):
    def test_empty_where_it_does_not_wait(self):
        hall = hall_with(3)
        hall.write(0, "a", 1)
        hall.keep(0)
        hall.give_up(1)
        hall.read(2, "a")
        self.assertEqual([hall.waits_for(deed) for deed in range(3)], [(), (), ()])

    def test_for_the_one_that_holds_it_for_writing(self):
        hall = hall_with(2)
        hall.write(0, "a", 1)
        hall.read(1, "a")
        self.assertEqual((hall.waits_for(0), hall.waits_for(1)), ((), (0,)))

    def test_for_each_that_holds_it_for_reading_rising(self):
        hall = hall_with(12)
        for deed in (11, 3, 10, 2):
            hall.read(deed, "a")
        hall.write(5, "a", 1)
        self.assertEqual(hall.waits_for(5), (2, 3, 10, 11))

    def test_for_each_that_stands_ahead(self):
        hall = hall_with(5)
        hall.write(4, "a", 1)
        hall.read(2, "a")
        hall.read(0, "a")
        hall.read(3, "a")
        self.assertEqual(hall.waits_for(2), (4,))
        self.assertEqual(hall.waits_for(0), (2, 4))
        self.assertEqual(hall.waits_for(3), (0, 2, 4))

    def test_not_for_one_that_holds_it_and_lets_it(self):
        hall = hall_with(3)
        hall.read(0, "a")
        hall.write(1, "a", 1)
        hall.read(2, "a")
        self.assertEqual((hall.waits_for(1), hall.waits_for(2)), ((0,), (1,)))

    def test_one_that_reads_and_wants_to_write_waits_for_the_others_and_not_for_itself(self):
        hall = hall_with(4)
        hall.read(0, "a")
        hall.read(1, "a")
        hall.write(2, "a", 2)
        hall.read(3, "a")
        hall.write(1, "a", 1)
        # 1 stands at the front now, so 3, which it lets as one that holds the key, waits for it too.
        self.assertEqual([hall.waits_for(deed) for deed in range(4)], [(), (0,), (0, 1), (1, 2)])

    def test_one_that_holds_it_and_stands_ahead_is_told_once(self):
        hall = hall_with(3)
        hall.read(0, "a")
        hall.read(1, "a")
        hall.write(0, "a", 1)
        hall.write(2, "a", 2)
        self.assertEqual(hall.waits_for(2), (0, 1))

    def test_shrinks_as_those_come_to_their_ends(self):
        hall = hall_with(4)
        hall.read(0, "a")
        hall.read(1, "a")
        hall.write(2, "a", 1)
        hall.write(3, "a", 1)
        hall.keep(0)
        self.assertEqual((hall.waits_for(2), hall.waits_for(3)), ((1,), (1, 2)))
        hall.give_up(2)
        self.assertEqual((hall.waits_for(2), hall.waits_for(3)), ((), (1,)))
        hall.keep(1)
        self.assertEqual(hall.waits_for(3), ())

    def test_others_on_the_way_are_not_told(self):
        hall = hall_with(3)
        hall.write(0, "a", 1)
        hall.write(1, "b", 1)
        hall.read(1, "a")
        hall.read(2, "b")
        self.assertEqual(hall.waits_for(2), (1,))


class TestTwoAllRound(unittest.TestCase):
    def test_the_greatest_is_the_one_that_has_to_wait(self):
        hall = hall_with(2)
        hall.write(0, "a", 1)
        hall.write(1, "b", 2)
        self.assertEqual(hall.write(0, "b", 3), ("waits",))
        self.assertEqual(hall.write(1, "a", 4), ("given up",))
        self.assertEqual(states(hall, 2), ["going", "given up"])
        self.assertEqual(hall.done_by(0), (("write", "a", 1), ("write", "b", 3)))
        self.assertEqual(hall.done_by(1), (("write", "b", 2),))
        self.assertEqual((hall.holders("b"), hall.row_of("a"), hall.row_of("b")), (((0, "writing"),), (), ()))

    def test_the_greatest_is_another(self):
        hall = hall_with(2)
        hall.write(0, "a", 1)
        hall.write(1, "b", 2)
        self.assertEqual(hall.write(1, "a", 3), ("waits",))
        self.assertEqual(hall.write(0, "b", 4), ("done",))
        self.assertEqual(states(hall, 2), ["going", "given up"])
        self.assertEqual(hall.log()[-2:], (("give up", 1), ("write", 0, "b", 0, 4)))

    def test_two_that_read_and_want_to_write(self):
        hall = hall_with(2)
        hall.read(0, "a")
        hall.read(1, "a")
        self.assertEqual(hall.write(0, "a", 1), ("waits",))
        self.assertEqual(hall.write(1, "a", 2), ("given up",))
        self.assertEqual((hall.holders("a"), hall.row_of("a"), hall.now()), (((0, "writing"),), (), (("a", 1),)))

    def test_two_that_read_and_want_to_write_the_other_way_round(self):
        hall = hall_with(2)
        hall.read(0, "a")
        hall.read(1, "a")
        self.assertEqual(hall.write(1, "a", 2), ("waits",))
        self.assertEqual(hall.write(0, "a", 1), ("done",))
        self.assertEqual((states(hall, 2), hall.now()), (["going", "given up"], (("a", 1),)))

    def test_the_one_left_may_have_to_wait_still(self):
        hall = hall_with(3)
        for deed in (0, 1, 2):
            hall.read(deed, "a")
        self.assertEqual(hall.write(2, "a", 2), ("waits",))
        self.assertEqual(hall.write(1, "a", 1), ("waits",))
        self.assertEqual(states(hall, 3), ["going", "waiting", "given up"])
        self.assertEqual((hall.waits_for(1), hall.row_of("a")), ((0,), ((1, "writing"),)))
        hall.keep(0)
        self.assertEqual(hall.now(), (("a", 1),))

    def test_a_read_sees_the_writes_undone(self):
        hall = hall_with(3)
        hall.write(0, "b", 5)
        hall.keep(0)
        hall.write(1, "a", 1)
        hall.write(2, "b", 9)
        hall.read(2, "a")
        self.assertEqual(hall.read(1, "b"), ("value", 5))
        self.assertEqual(hall.done_by(1), (("write", "a", 1), ("read", "b", 5)))

    def test_no_ring_no_victim(self):
        hall = hall_with(3)
        hall.write(0, "a", 1)
        hall.write(1, "b", 1)
        hall.read(1, "a")
        hall.read(2, "b")
        self.assertEqual((states(hall, 3), given_up_in(hall)), (["going", "waiting", "waiting"], []))


class TestMoreAllRound(unittest.TestCase):
    def test_rings_of_three_and_more(self):
        for size in (3, 4, 7, 40):
            for turn in range(min(size, 7)):
                deeds = list(range(size))[turn:] + list(range(size))[:turn]
                hall = hall_with(size)
                keys = ring_of(hall, deeds)
                with self.subTest(size=size, turn=turn):
                    self.assertEqual(given_up_in(hall), [])
                    last = deeds[-1]
                    answer = hall.read(last, keys[0])
                    self.assertEqual(given_up_in(hall), [size - 1])
                    # Whoever waited for the greatest goes on; the others wait as before.
                    freed = deeds[deeds.index(size - 1) - 1]
                    self.assertEqual([deed for deed in deeds if hall.state_of(deed) == "going"], [freed])
                    self.assertEqual(hall.done_by(freed)[-1], ("read", keys[deeds.index(size - 1)], 0))
                    expected = ("given up",) if last == size - 1 else ("value", 0) if last == freed else ("waits",)
                    self.assertEqual(answer, expected)

    def test_a_ring_of_very_many(self):
        # Far deeper than calls may go within one another.
        size = 676
        hall = hall_with(size)
        keys = ring_of(hall, list(range(size)))
        self.assertEqual(hall.read(size - 1, keys[0]), ("given up",))
        self.assertEqual(given_up_in(hall), [size - 1])

    def test_a_row_of_very_many(self):
        hall = hall_with(500)
        for deed in range(500):
            hall.write(deed, "a", deed)
        self.assertEqual(hall.waits_for(499), tuple(range(499)))
        for deed in range(500):
            hall.keep(deed)
        self.assertEqual(hall.kept_book(), (("a", 499),))

    def test_a_greater_one_that_only_waits_for_the_ring_stays(self):
        hall = hall_with(5)
        hall.write(0, "a", 1)
        hall.write(0, "c", 1)
        hall.write(1, "b", 1)
        hall.read(4, "c")
        hall.read(0, "b")
        self.assertEqual(hall.read(1, "a"), ("given up",))
        self.assertEqual(states(hall, 5), ["going", "given up", "going", "going", "waiting"])

    def test_a_greater_one_that_the_ring_waits_for_stays(self):
        hall = hall_with(5)
        hall.read(4, "b")
        hall.write(0, "a", 1)
        hall.read(1, "b")
        hall.write(0, "b", 2)
        self.assertEqual(hall.waits_for(0), (1, 4))
        self.assertEqual(hall.read(1, "a"), ("given up",))
        self.assertEqual((states(hall, 5)[0], states(hall, 5)[4], hall.waits_for(0)), ("waiting", "going", (4,)))

    def test_one_in_the_ring_by_its_place_in_the_row(self):
        hall = hall_with(3)
        hall.write(0, "a", 1)
        hall.write(1, "b", 1)
        self.assertEqual(hall.read(2, "a"), ("waits",))
        self.assertEqual(hall.read(0, "b"), ("waits",))
        # 1 waits for 2, which stands ahead of it, and 2 for 0: 2 is the greatest, but its end is not enough.
        self.assertEqual(hall.read(1, "a"), ("given up",))
        self.assertEqual(given_up_in(hall), [2, 1])
        self.assertEqual((states(hall, 3), hall.done_by(0)[-1]), (["going", "given up", "given up"], ("read", "b", 0)))

    def test_all_those_ahead_in_the_row_are_in_the_ring(self):
        hall = hall_with(5)
        hall.write(0, "a", 1)
        hall.write(2, "c", 1)
        for deed in (1, 4, 3):
            self.assertEqual(hall.read(deed, "a"), ("waits",))
        self.assertEqual(hall.read(0, "c"), ("waits",))
        self.assertEqual(hall.read(2, "a"), ("given up",))
        self.assertEqual(given_up_in(hall), [4, 3, 2])
        self.assertEqual(states(hall, 5), ["going", "waiting", "given up", "given up", "given up"])

    def test_a_reader_is_in_a_ring_with_a_reader_ahead_of_it(self):
        hall = hall_with(4)
        hall.read(0, "a")
        hall.write(1, "a", 1)
        hall.write(3, "b", 1)
        self.assertEqual(hall.read(3, "a"), ("waits",))
        self.assertEqual(hall.waits_for(3), (1,))
        # 0 waits for 3, 3 for 1 ahead of it, 1 for 0 that reads.
        self.assertEqual(hall.read(0, "b"), ("value", 0))
        self.assertEqual(given_up_in(hall), [3])
        self.assertEqual(states(hall, 4), ["going", "waiting", "going", "given up"])

    def test_several_rings_at_once_the_greatest_of_all_first(self):
        hall = hall_with(4)
        hall.write(0, "b", 1)
        hall.write(0, "c", 1)
        hall.write(0, "d", 1)
        for deed, key in ((2, "b"), (3, "c"), (1, "d")):
            hall.read(deed, "a")
            self.assertEqual(hall.read(deed, key), ("waits",))
        self.assertEqual(hall.write(0, "a", 7), ("done",))
        self.assertEqual(given_up_in(hall), [3, 2, 1])
        self.assertEqual(hall.log()[-4:], (("give up", 3), ("give up", 2), ("give up", 1), ("write", 0, "a", 0, 7)))

    def test_no_more_are_given_up_than_needed(self):
        # 1 waits for 0 and 2 for 1 and 0: the end of 2, the greatest, breaks both rings.
        hall = hall_with(3)
        hall.write(2, "c", 1)
        hall.write(1, "b", 1)
        hall.write(0, "a", 1)
        hall.read(1, "a")
        hall.read(2, "b")
        self.assertEqual(hall.read(0, "c"), ("value", 0))
        self.assertEqual((given_up_in(hall), states(hall, 3)), ([2], ["going", "waiting", "given up"]))

    def test_a_ring_closed_by_going_to_the_front(self):
        hall = hall_with(4)
        hall.read(0, "a")
        hall.read(1, "a")
        hall.write(2, "b", 1)
        hall.write(2, "a", 2)
        hall.write(1, "b", 3)
        # Two waits for 0 and 1, one for two: 2 is given up there already.
        self.assertEqual((given_up_in(hall), hall.done_by(1)[-1]), ([2], ("write", "b", 3)))
        self.assertEqual(hall.write(0, "a", 4), ("waits",))
        self.assertEqual(hall.write(1, "a", 5), ("given up",))
        self.assertEqual((hall.now(), states(hall, 2)), ((("a", 4),), ["going", "given up"]))

    def test_all_that_follows_is_done(self):
        hall = hall_with(6)
        hall.write(5, "c", 1)
        hall.write(5, "b", 1)
        hall.write(5, "aa", 1)
        hall.write(0, "a", 1)
        hall.write(1, "c", 11)
        hall.read(2, "aa")
        hall.write(3, "aa", 13)
        hall.read(4, "aa")
        self.assertEqual(hall.write(0, "b", 10), ("waits",))
        self.assertEqual(hall.read(5, "a"), ("given up",))
        self.assertEqual(hall.log()[-3:], (("give up", 5), ("write", 0, "b", 0, 10), ("write", 1, "c", 0, 11)))
        self.assertEqual((hall.holders("aa"), hall.row_of("aa")), (((2, "reading"),), ((3, "writing"), (4, "reading"))))
        self.assertEqual(hall.done_by(2), (("read", "aa", 0),))

    def test_what_follows_lets_a_reader_behind_the_one_given_up_go_on(self):
        hall = hall_with(4)
        hall.read(0, "a")
        hall.write(3, "b", 1)
        hall.write(3, "a", 1)
        hall.read(2, "a")
        self.assertEqual(hall.read(0, "b"), ("value", 0))
        self.assertEqual(hall.holders("a"), ((0, "reading"), (2, "reading")))
        self.assertEqual(hall.state_of(2), "going")


if __name__ == "__main__":
    unittest.main()
