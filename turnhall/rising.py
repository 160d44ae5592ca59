"""Rising: what is had behind a fall from what was written down, cut wherever one likes."""

from turnhall.deeds import WRITE
from turnhall.halls import BEGIN, KEEP, Hall
from turnhall.keys import rising_pairs


def book_of(rows):
    written = {}
    book = {}
    for row in rows:
        if row[0] == WRITE:
            written.setdefault(row[1], []).append((row[2], row[4]))
        elif row[0] == KEEP:
            for key, value in written.get(row[1], []):
                book[key] = value
    return rising_pairs(book)


def going_in(rows):
    going = {}
    for row in rows:
        if row[0] == BEGIN:
            going[row[1]] = True
        elif row[0] != WRITE:
            going.pop(row[1], None)
    return tuple(sorted(going))


def risen(rows):
    hall = Hall()
    for row in rows:
        do_again(hall, row)
    for deed in going_in(rows):
        hall.give_up(deed)
    return hall


# Nothing waits here: whoever wrote had the key alone, and reads, which are not written down, take no key.
def do_again(hall, row):
    if row[0] == BEGIN:
        hall.begin()
    elif row[0] == WRITE:
        hall.write(row[1], row[2], row[4])
    elif row[0] == KEEP:
        hall.keep(row[1])
    else:
        hall.give_up(row[1])
