"""What several test files need: halls with deeds in them, and all that a hall tells at once."""

from turnhall.halls import Hall

KEYS = ("a", "aa", "b", "c", "d", "e", "zzzz")


def hall_with(deeds):
    hall = Hall()
    for number in range(deeds):
        if hall.begin() != number:
            raise AssertionError("deeds are numbered from 0 on as they begin")
    return hall


def book_told(hall):
    return {"now": hall.now(), "kept_book": hall.kept_book(), "order": hall.order(), "log": hall.log()}


def all_told(hall, keys=KEYS):
    deeds = range(len([row for row in hall.log() if row[0] == "begin"]))
    return book_told(hall) | {
        "state_of": [hall.state_of(deed) for deed in deeds],
        "done_by": [hall.done_by(deed) for deed in deeds],
        "waits_for": [hall.waits_for(deed) for deed in deeds],
        "holders": [hall.holders(key) for key in keys],
        "row_of": [hall.row_of(key) for key in keys],
    }


def is_told_kind(thing):
    # The very kinds: a truth, a list or a kin of tuple is equal to what is told, and yet none of it.
    if type(thing) is tuple:
        return all(is_told_kind(part) for part in thing)
    return thing is None or type(thing) in (str, int)
