"""Keys: what is one, in which order they come, and what stands under them.

A book is a dict from keys to values; a key under which nothing was written is not in it.
None of these functions refuses anything, and none changes what is handed in.
"""

MOST_LETTERS = 4
FIRST_VALUE = 0


def is_key(thing):
    if not isinstance(thing, str):
        return False
    if len(thing) < 1 or len(thing) > MOST_LETTERS:
        return False
    # Sign by sign, since islower takes digits among letters, and letters beyond a to z.
    return all(["a" <= sign <= "z" for sign in thing])


def is_whole(thing):
    # A truth is an int to Python, but no whole number here.
    return isinstance(thing, int) and not isinstance(thing, bool)


def rising_keys(given):
    # The keys may come from several places at once, so one may come twice.
    return tuple(sorted(set(given)))


def value_under(book, key):
    return book.get(key, FIRST_VALUE)


def rising_pairs(book):
    return tuple([(key, book[key]) for key in rising_keys(book)])
