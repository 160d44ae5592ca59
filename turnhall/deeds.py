"""Deeds: how one of them stands and what it did, and how several of them share a key.

Here and in the halls a deed is its number; what is known of it stands in its record.
"""

from turnhall.keys import rising_keys

GOING = "going"
WAITING = "waiting"
KEPT = "kept"
GIVEN_UP = "given up"

READING = "reading"
WRITING = "writing"

READ = "read"
WRITE = "write"


# What a deed is to do; there is a value for a write alone.
class Want:
    def __init__(self, use, key, value):
        self.use = use
        self.key = key
        self.value = value


# What is known of one deed: its state, what it did, and what it waits for.
class Record:
    def __init__(self):
        self.state = GOING
        self.did = []
        self.want = None

    def is_at_end(self):
        return self.state == KEPT or self.state == GIVEN_UP

    def written(self):
        return [(key, value) for act, key, value in self.did if act == WRITE]

    # A key is taken by doing something under it, so there is no other key that the deed holds or waits for.
    def touched_keys(self):
        touched = [key for act, key, value in self.did]
        if self.want is not None:
            touched.append(self.want.key)
        return rising_keys(touched)


# One key: the deeds that hold it, with what for, and the row of those that wait, as pairs (deed, what for).
class Desk:
    def __init__(self):
        self.held = {}
        self.row = []

    def hindering(self, deed, use):
        others = [other for other in self.held if other != deed]
        if use == WRITING:
            return others
        return [other for other in others if self.held[other] == WRITING]

    def lets(self, deed, use):
        return len(self.hindering(deed, use)) == 0

    def lets_at_once(self, deed, use):
        # Whoever holds the key already goes past those that wait for it.
        return (deed in self.held or len(self.row) == 0) and self.lets(deed, use)

    def lets_first(self):
        return len(self.row) > 0 and self.lets(self.row[0][0], self.row[0][1])

    def take(self, deed, use):
        # Whoever reads what it holds for writing holds it for writing still.
        if self.held.get(deed) != WRITING:
            self.held[deed] = use

    def line_up(self, deed, use):
        if deed in self.held:
            self.row.insert(0, (deed, use))
        else:
            self.row.append((deed, use))

    def leave(self, deed):
        self.held.pop(deed, None)
        self.row = [pair for pair in self.row if pair[0] != deed]

    def waited_for(self, deed, use):
        place = self.row.index((deed, use))
        ahead = [pair[0] for pair in self.row[:place]]
        return tuple(sorted(set(ahead + self.hindering(deed, use))))

    # Fewer than waited_for, yet as many are come to through them: whoever else is ahead through the one just ahead, and
    # whoever holds the key through the first in the row, since those that hinder any hinder the first or are the first.
    def next_waited_for(self, deed, use):
        place = self.row.index((deed, use))
        if place > 0:
            return [self.row[place - 1][0]]
        return self.hindering(deed, use)
