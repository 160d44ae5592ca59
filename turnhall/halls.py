"""Halls: many deeds on one book, each of which takes the keys that it needs and keeps them to its end."""

from turnhall.deeds import GIVEN_UP, GOING, KEPT, READ, READING, WAITING, WRITE, WRITING, Desk, Record, Want
from turnhall.errors import NoDeed, NotGoing
from turnhall.keys import is_whole, rising_pairs, value_under

BEGIN = "begin"
KEEP = "keep"
GIVE_UP = "give up"


class Hall:
    def __init__(self):
        self.records = []
        self.desks = {}
        self.standing = {}
        self.kept_values = {}
        self.kept_deeds = []
        self.rows = []

    def begin(self):
        deed = len(self.records)
        self.records.append(Record())
        self.rows.append((BEGIN, deed))
        return deed

    def read(self, deed, key):
        self.refuse_unless_going(deed)
        return self.ask(deed, Want(READING, key, None))

    def write(self, deed, key, value):
        self.refuse_unless_going(deed)
        return self.ask(deed, Want(WRITING, key, value))

    def keep(self, deed):
        self.refuse_unless_going(deed)
        self.rows.append((KEEP, deed))
        self.kept_deeds.append(deed)
        for key, value in self.records[deed].written():
            self.kept_values[key] = value
        self.end(deed, KEPT)

    def give_up(self, deed):
        if self.record_of(deed).is_at_end():
            raise NotGoing("the deed is at its end")
        self.drop(deed)

    def state_of(self, deed):
        return self.record_of(deed).state

    def done_by(self, deed):
        return tuple(self.record_of(deed).did)

    def holders(self, key):
        if key not in self.desks:
            return ()
        return tuple(sorted(self.desks[key].held.items()))

    def row_of(self, key):
        if key not in self.desks:
            return ()
        return tuple(self.desks[key].row)

    def waits_for(self, deed):
        want = self.record_of(deed).want
        if want is None:
            return ()
        return self.desks[want.key].waited_for(deed, want.use)

    def now(self):
        return rising_pairs(self.standing)

    def kept_book(self):
        return rising_pairs(self.kept_values)

    def order(self):
        return tuple(self.kept_deeds)

    def log(self):
        return tuple(self.rows)

    def record_of(self, deed):
        # A number below 0 would else count from the last deed back.
        if not is_whole(deed) or deed < 0 or deed >= len(self.records):
            raise NoDeed("there is no deed with this number")
        return self.records[deed]

    def refuse_unless_going(self, deed):
        if self.record_of(deed).state != GOING:
            raise NotGoing("the deed waits or is at its end")

    def ask(self, deed, want):
        desk = self.desks.setdefault(want.key, Desk())
        if desk.lets_at_once(deed, want.use):
            self.carry_out(deed, want)
        else:
            self.wait(deed, want)
        return self.answer(deed, want)

    # A deed that had to wait may have been let on by the end of another, so its state alone shows what came of it.
    def answer(self, deed, want):
        record = self.records[deed]
        if record.state == GIVEN_UP:
            return ("given up",)
        if record.state == WAITING:
            return ("waits",)
        if want.use == WRITING:
            return ("done",)
        return ("value", record.did[-1][2])

    def carry_out(self, deed, want):
        self.desks[want.key].take(deed, want.use)
        record = self.records[deed]
        record.state = GOING
        record.want = None
        before = value_under(self.standing, want.key)
        if want.use == WRITING:
            self.rows.append((WRITE, deed, want.key, before, want.value))
            self.standing[want.key] = want.value
            record.did.append((WRITE, want.key, want.value))
        else:
            record.did.append((READ, want.key, before))

    def wait(self, deed, want):
        record = self.records[deed]
        record.state = WAITING
        record.want = want
        self.desks[want.key].line_up(deed, want.use)
        greatest = self.greatest_all_round(deed)
        while greatest is not None:
            self.drop(greatest)
            greatest = self.greatest_all_round(deed)

    # Nobody waited all round until now, and no end makes anybody wait for more. So whoever waits all round does so by
    # way of the deed that has just had to wait.
    def greatest_all_round(self, deed):
        found = self.come_to(deed)
        if deed not in found:
            return None
        rising = sorted(found)
        while deed not in self.come_to(rising[-1]):
            rising.pop()
        return rising[-1]

    def come_to(self, deed):
        found = {}
        left = [deed]
        while len(left) > 0:
            last = left.pop()
            for other in self.next_from(last):
                if other not in found:
                    found[other] = True
                    left.append(other)
        return found

    def next_from(self, deed):
        want = self.records[deed].want
        if want is None:
            return []
        return self.desks[want.key].next_waited_for(deed, want.use)

    def drop(self, deed):
        self.rows.append((GIVE_UP, deed))
        self.undo(deed)
        self.end(deed, GIVEN_UP)

    # Who writes has the key alone, to its end, so what stood there ahead of its writes is what the kept deeds left.
    def undo(self, deed):
        for key, value in self.records[deed].written():
            if key in self.kept_values:
                self.standing[key] = self.kept_values[key]
            else:
                self.standing.pop(key, None)

    def end(self, deed, state):
        record = self.records[deed]
        touched = record.touched_keys()
        record.state = state
        record.want = None
        for key in touched:
            self.desks[key].leave(deed)
        for key in touched:
            self.let_on(key)

    def let_on(self, key):
        desk = self.desks[key]
        while desk.lets_first():
            first = desk.row.pop(0)
            self.carry_out(first[0], self.records[first[0]].want)
