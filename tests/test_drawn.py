"""Points 0.1 and 0.2: what holds over the whole program, tried over many drawn orders of acts, and over all short ones.

Everything is drawn from written seeds, so that each run tries the same.
"""

import copy
import random
import unittest

from plain_hall import PlainHall
from telling import all_told
from turnhall.errors import NoDeed, NotGoing
from turnhall.halls import Hall
from turnhall.rising import book_of, going_in, risen

# How many deeds may go on at once, the keys, how many acts, and how often an end comes.
KINDS = (
    (2, ("a", "b"), 30, 0.15),
    (3, ("a",), 40, 0.2),
    (4, ("b", "a", "aa"), 60, 0.15),
    (6, ("a", "c", "zzzz", "b"), 80, 0.1),
    (9, ("d", "a", "c", "b", "ab"), 100, 0.05),
    (14, ("a", "b", "c", "d", "e", "f"), 120, 0.03),
)
SEEDS_OF_EACH = 60


class Run:
    """A drawn run in a hall, with what was asked of each deed and how the book was at each length of the log."""

    def __init__(self, seed, kind):
        self.draw = random.Random(seed)
        self.most, self.keys, self.acts, self.ends = kind
        self.hall = Hall()
        self.asked = []
        self.moments = {0: ((), ())}

    def deeds(self, *states):
        return [deed for deed in range(len(self.asked)) if self.hall.state_of(deed) in states]

    def next_act(self):
        going = self.deeds("going")
        open_deeds = going + self.deeds("waiting")
        if not open_deeds or (len(open_deeds) < self.most and self.draw.random() < 0.3):
            return ("begin",)
        if not going or self.draw.random() < self.ends / 3:
            return ("give_up", self.draw.choice(open_deeds))
        deed = self.draw.choice(going)
        if self.draw.random() < self.ends:
            return ("keep", deed)
        key = self.draw.choice(self.keys)
        if self.draw.random() < 0.5:
            return ("read", deed, key)
        return ("write", deed, key, self.draw.choice((0, 1, 2, -3, 10**20)))

    def do(self, act):
        if act[0] == "begin":
            self.asked.append([])
        elif act[0] in ("read", "write"):
            self.asked[act[1]].append((act[0],) + act[2:])
        answer = getattr(self.hall, act[0])(*act[1:])
        self.moments[len(self.hall.log())] = (self.hall.kept_book(), self.hall.order())
        return answer

    def steps(self):
        for again in range(self.acts):
            act = self.next_act()
            yield act, self.do(act)


def drawn_runs():
    for number, kind in enumerate(KINDS):
        for seed in range(SEEDS_OF_EACH):
            yield Run(seed * len(KINDS) + number, kind)


def done_one_behind_the_other(asked):
    book = {}
    done = []
    for acts in asked:
        done.append([])
        for act in acts:
            if act[0] == "write":
                book[act[1]] = act[2]
            done[-1].append((act[0], act[1], book.get(act[1], 0)))
    return [tuple(acts) for acts in done], tuple(sorted(book.items()))


def come_to(hall, deed):
    found = set()
    left = [deed]
    while left:
        new = set(hall.waits_for(left.pop())) - found
        found |= new
        left.extend(new)
    return found


class TestAgainstThePlainHall(unittest.TestCase):
    def test_all_is_told_alike_behind_every_act(self):
        for run in drawn_runs():
            plain = PlainHall()
            for act, answer in run.steps():
                self.assertEqual(answer, getattr(plain, act[0])(*act[1:]), act)
                self.assertEqual(all_told(run.hall, run.keys), all_told(plain, run.keys), act)

    def test_all_short_orders_of_acts(self):
        for deeds, keys, length in ((2, "a", 5), (3, "a", 4), (2, "ab", 4)):
            acts = [(end, deed) for end in ("keep", "give_up") for deed in range(deeds)]
            for deed in range(deeds):
                for key in keys:
                    acts.extend([("read", deed, key), ("write", deed, key, deed + 1)])
            pair = (Hall(), PlainHall())
            for begun in range(deeds):
                self.assertEqual(pair[0].begin(), pair[1].begin())
            self.go_on(pair, acts, keys, length)

    def go_on(self, pair, acts, keys, length):
        for act in acts if length else ():
            state = pair[1].state_of(act[1])
            if state == "going" or (state == "waiting" and act[0] == "give_up"):
                hall, plain = copy.deepcopy(pair)
                self.assertEqual(getattr(hall, act[0])(*act[1:]), getattr(plain, act[0])(*act[1:]))
                self.assertEqual(all_told(hall, keys), all_told(plain, keys))
                self.go_on((hall, plain), acts, keys, length - 1)


class TestOneBehindTheOther(unittest.TestCase):
    def test_the_kept_deeds_read_and_leave_the_same_done_by_hand(self):
        kept = 0
        for run in drawn_runs():
            for act, answer in run.steps():
                if act[0] == "keep":
                    done, book = done_one_behind_the_other([run.asked[deed] for deed in run.hall.order()])
                    self.assertEqual([run.hall.done_by(deed) for deed in run.hall.order()], done)
                    self.assertEqual(run.hall.kept_book(), book)
            kept += len(run.hall.order())
        self.assertGreater(kept, 1000)

    def test_now_is_kept_once_all_are_kept(self):
        for run in drawn_runs():
            for act, answer in run.steps():
                pass
            while run.deeds("going"):
                run.do(("keep", run.draw.choice(run.deeds("going"))))
            self.assertEqual(run.deeds("waiting"), [])
            self.assertEqual(run.hall.now(), run.hall.kept_book())


class TestNoTrace(unittest.TestCase):
    def test_in_the_book_or_among_the_keys(self):
        given_up = 0
        for run in drawn_runs():
            for act, answer in run.steps():
                stays = set(run.deeds("going", "waiting"))
                for key in run.keys:
                    self.assertLessEqual({deed for deed, use in run.hall.holders(key) + run.hall.row_of(key)}, stays)
                gone = set(run.deeds("given up"))
                left = [row for row in run.hall.log() if row[0] == "write" and row[1] not in gone]
                self.assertEqual(dict(run.hall.now()), {row[2]: row[4] for row in left})
            given_up += len(run.deeds("given up"))
        self.assertGreater(given_up, 1000)

    def test_the_book_is_as_if_they_had_never_been(self):
        for run in drawn_runs():
            for act, answer in run.steps():
                pass
            without = Hall()
            for deed in range(len(run.asked)):
                without.begin()
            for deed in run.hall.order():
                for act in run.asked[deed]:
                    getattr(without, act[0])(deed, *act[1:])
                without.keep(deed)
            self.assertEqual((without.kept_book(), without.order()), (run.hall.kept_book(), run.hall.order()))


class TestNobodyWaitsAllRound(unittest.TestCase):
    def test_behind_every_act(self):
        rings = 0
        for run in drawn_runs():
            for act, answer in run.steps():
                rings += answer == ("given up",)
                for deed in run.deeds("waiting"):
                    self.assertNotIn(deed, come_to(run.hall, deed))
        self.assertGreater(rings, 300)

    def test_whoever_waits_waits_for_one_that_is_at_no_end(self):
        for run in drawn_runs():
            for act, answer in run.steps():
                at_no_end = set(run.deeds("going", "waiting"))
                for deed in range(len(run.asked)):
                    waits_for = run.hall.waits_for(deed)
                    self.assertEqual(bool(waits_for), run.hall.state_of(deed) == "waiting")
                    self.assertLessEqual(set(waits_for), at_no_end - {deed})

    def test_whoever_waits_goes_on_once_those_are_at_their_ends(self):
        for run in drawn_runs():
            for act, answer in run.steps():
                pass
            for deed in run.deeds("waiting"):
                hall = copy.deepcopy(run.hall)
                done = len(hall.done_by(deed))
                # It may go on sooner: with one that reads ahead of it, it reads along.
                for other in hall.waits_for(deed):
                    hall.give_up(other)
                self.assertEqual((hall.state_of(deed), len(hall.done_by(deed))), ("going", done + 1))


class TestCutAnywhere(unittest.TestCase):
    def cut_runs(self):
        for run in drawn_runs():
            for act, answer in run.steps():
                pass
            rows = run.hall.log()
            for cut in range(len(rows) + 1):
                yield run, rows[:cut]

    def test_the_book_of_just_those_that_were_kept_by_then(self):
        for run, rows in self.cut_runs():
            kept = [row[1] for row in rows if row[0] == "keep"]
            done, book = done_one_behind_the_other([run.asked[deed] for deed in kept])
            self.assertEqual(book_of(rows), book)
            if len(rows) in run.moments:
                self.assertEqual((book_of(rows), tuple(kept)), run.moments[len(rows)])

    def test_the_deeds_that_go_on(self):
        for run, rows in self.cut_runs():
            begun = {row[1] for row in rows if row[0] == "begin"}
            ended = {row[1] for row in rows if row[0] in ("keep", "give up")}
            self.assertEqual(going_in(rows), tuple(sorted(begun - ended)))
        for run in drawn_runs():
            for act, answer in run.steps():
                self.assertEqual(going_in(run.hall.log()), tuple(run.deeds("going", "waiting")))

    def test_a_risen_hall(self):
        for run, rows in self.cut_runs():
            hall = risen(rows)
            kept = tuple(row[1] for row in rows if row[0] == "keep")
            self.assertEqual(hall.log(), rows + tuple(("give up", deed) for deed in going_in(rows)))
            self.assertEqual((hall.order(), hall.kept_book(), hall.now()), (kept, book_of(rows), book_of(rows)))
            begun = len([row for row in rows if row[0] == "begin"])
            for deed in range(begun):
                writes = [("write", row[2], row[4]) for row in rows if row[:2] == ("write", deed)]
                self.assertEqual(hall.done_by(deed), tuple(writes))
                self.assertEqual(hall.state_of(deed), "kept" if deed in kept else "given up")
                self.assertEqual(hall.waits_for(deed), ())
            for key in run.keys:
                self.assertEqual((hall.holders(key), hall.row_of(key)), ((), ()))
            self.assertEqual(hall.begin(), begun)


class TestRefusedAnywhere(unittest.TestCase):
    def refused(self, run, refusal, name, deed):
        before = all_told(run.hall, run.keys)
        call = {"read": (deed, "a"), "write": (deed, "a", 77)}.get(name, (deed,))
        with self.assertRaises(refusal):
            getattr(run.hall, name)(*call)
        self.assertEqual(all_told(run.hall, run.keys), before)

    def test_a_refusal_changes_nothing(self):
        for run in list(drawn_runs())[::5]:
            for act, answer in run.steps():
                deeds = len(run.asked)
                for name in ("read", "write", "keep", "give_up", "state_of", "done_by", "waits_for"):
                    self.refused(run, NoDeed, name, run.draw.choice((-1, -deeds, deeds, deeds + 1)))
                for deed in run.deeds("kept", "given up")[-2:]:
                    self.refused(run, NotGoing, run.draw.choice(("read", "write", "keep", "give_up")), deed)
                for deed in run.deeds("waiting")[:2]:
                    self.refused(run, NotGoing, run.draw.choice(("read", "write", "keep")), deed)


if __name__ == "__main__":
    unittest.main()
