"""A hall that follows the words of the document one by one, slowly, to hold the program against.

It keeps no book: what stands under a key is looked up in what was written down each time, and who waits all round is
found by going everywhere from everyone.
"""


class PlainHall:
    def __init__(self):
        self.states = []
        self.done = []
        self.wants = []
        self.held = {}
        self.waiting = {}
        self.rows = []

    def begin(self):
        self.states.append("going")
        self.done.append([])
        self.wants.append(None)
        self.rows.append(("begin", len(self.states) - 1))
        return len(self.states) - 1

    def read(self, deed, key):
        return self.act(deed, ("reading", key, None))

    def write(self, deed, key, value):
        return self.act(deed, ("writing", key, value))

    def keep(self, deed):
        self.rows.append(("keep", deed))
        self.end(deed, "kept")

    def give_up(self, deed):
        self.rows.append(("give up", deed))
        self.end(deed, "given up")

    def act(self, deed, want):
        use, key, value = want
        held = self.held.setdefault(key, {})
        row = self.waiting.setdefault(key, [])
        if held.get(deed) == "writing" or held.get(deed) == use:
            self.do(deed, want)
        elif deed in held:
            if list(held) == [deed]:
                self.do(deed, want)
            else:
                self.begin_to_wait(deed, want, 0)
        elif not row and self.let(deed, use, key):
            self.do(deed, want)
        else:
            self.begin_to_wait(deed, want, len(row))
        if self.states[deed] == "going":
            return ("value", self.done[deed][-1][2]) if use == "reading" else ("done",)
        return ("waits",) if self.states[deed] == "waiting" else ("given up",)

    def do(self, deed, want):
        use, key, value = want
        stands = self.now_dict().get(key, 0)
        if use == "reading":
            self.held[key].setdefault(deed, "reading")
            self.done[deed].append(("read", key, stands))
        else:
            self.held[key][deed] = "writing"
            self.done[deed].append(("write", key, value))
            self.rows.append(("write", deed, key, stands, value))

    def begin_to_wait(self, deed, want, place):
        self.states[deed] = "waiting"
        self.wants[deed] = want
        self.waiting[want[1]].insert(place, deed)
        while self.all_round():
            self.give_up(max(self.all_round()))

    def let(self, deed, use, key):
        others = [self.held[key][other] for other in self.held[key] if other != deed]
        return not others if use == "writing" else "writing" not in others

    def end(self, deed, state):
        self.states[deed] = state
        self.wants[deed] = None
        for key in self.held:
            self.held[key].pop(deed, None)
            if deed in self.waiting[key]:
                self.waiting[key].remove(deed)
        for key in sorted(self.waiting):
            while self.waiting[key] and self.let(self.waiting[key][0], self.wants[self.waiting[key][0]][0], key):
                first = self.waiting[key].pop(0)
                want = self.wants[first]
                self.states[first] = "going"
                self.wants[first] = None
                self.do(first, want)

    def all_round(self):
        ways = {deed: set(self.waits_for(deed)) for deed in range(len(self.states))}
        for through in ways:
            for start in ways:
                if through in ways[start]:
                    ways[start] |= ways[through]
        return [deed for deed in ways if deed in ways[deed]]

    def state_of(self, deed):
        return self.states[deed]

    def done_by(self, deed):
        return tuple(self.done[deed])

    def holders(self, key):
        return tuple(sorted(self.held.get(key, {}).items()))

    def row_of(self, key):
        return tuple((deed, self.wants[deed][0]) for deed in self.waiting.get(key, []))

    def waits_for(self, deed):
        if self.wants[deed] is None:
            return ()
        use, key, value = self.wants[deed]
        row = self.waiting[key]
        ahead = set(row[:row.index(deed)])
        for other, how in self.held[key].items():
            if other != deed and (use == "writing" or how == "writing"):
                ahead.add(other)
        return tuple(sorted(ahead))

    def now_dict(self):
        return {row[2]: row[4] for row in self.rows if row[0] == "write" and self.states[row[1]] != "given up"}

    def now(self):
        return tuple(sorted(self.now_dict().items()))

    def kept_book(self):
        book = {}
        for deed in self.order():
            book.update((key, value) for act, key, value in self.done[deed] if act == "write")
        return tuple(sorted(book.items()))

    def order(self):
        return tuple(row[1] for row in self.rows if row[0] == "keep")

    def log(self):
        return tuple(self.rows)
