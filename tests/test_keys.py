import itertools
import unittest

from turnhall.keys import is_key, is_whole, rising_keys, rising_pairs, value_under

LETTERS = "abcdefghijklmnopqrstuvwxyz"


class TestIsKey(unittest.TestCase):
    def test_every_letter_is_a_key(self):
        for letter in LETTERS:
            self.assertIs(is_key(letter), True, letter)

    def test_one_to_four_letters(self):
        for key in ("a", "z", "ab", "zz", "abc", "aaaa", "zzzz", "azaz", "book"):
            self.assertIs(is_key(key), True, key)

    def test_too_short_or_too_long(self):
        for text in ("", "aaaaa", "zzzzz", "abcde", "a" * 100):
            self.assertIs(is_key(text), False, text)

    def test_every_other_sign_of_ascii_at_every_place(self):
        for number in range(128):
            sign = chr(number)
            if sign in LETTERS:
                continue
            for text in (sign, sign + "a", "a" + sign, "ab" + sign, "abc" + sign, "a" + sign + "bc"):
                self.assertIs(is_key(text), False, repr(text))

    def test_capitals_digits_and_blanks(self):
        for text in ("A", "Z", "aB", "ABCD", "0", "a1", "1234", " ", "    ", " a", "a ", "a b", "a\n", "\ta"):
            self.assertIs(is_key(text), False, repr(text))

    def test_letters_beyond_a_to_z(self):
        # The code points are written as numbers, so that no editor can fold one into a plain letter.
        for number in (0xE4, 0xDF, 0xE9, 0x131, 0x3B1, 0x430, 0xFF41, 0x1D41A):
            self.assertIs(is_key(chr(number)), False, hex(number))
            self.assertIs(is_key("a" + chr(number)), False, hex(number))
        self.assertIs(is_key("e" + chr(0x301)), False)

    def test_things_that_are_no_texts(self):
        for thing in (None, 0, 1, True, ("a",), ["a"], {"a": 1}, b"a"):
            self.assertIs(is_key(thing), False, repr(thing))


class TestIsWhole(unittest.TestCase):
    def test_whole_numbers(self):
        for number in (0, 1, -1, 7, 10**30, -(10**30)):
            self.assertIs(is_whole(number), True, number)

    def test_truths_are_none(self):
        self.assertIs(is_whole(True), False)
        self.assertIs(is_whole(False), False)

    def test_other_things_are_none(self):
        for thing in (None, "1", "", 1.0, (1,), [1], {1: 1}):
            self.assertIs(is_whole(thing), False, repr(thing))


class TestRisingKeys(unittest.TestCase):
    RISING = ("a", "aa", "aaaa", "ab", "az", "b", "ba", "z", "za", "zzz", "zzzz")

    def test_none_and_one(self):
        self.assertEqual(rising_keys([]), ())
        self.assertEqual(rising_keys(()), ())
        self.assertEqual(rising_keys(["q"]), ("q",))

    def test_the_order_of_keys(self):
        for given in itertools.permutations(("a", "aa", "b", "zzzz")):
            self.assertEqual(rising_keys(list(given)), ("a", "aa", "b", "zzzz"))

    def test_the_end_of_a_key_comes_ahead_of_every_letter(self):
        self.assertEqual(rising_keys(self.RISING[::-1]), self.RISING)
        self.assertEqual(rising_keys(self.RISING[::2] + self.RISING[1::2]), self.RISING)

    def test_a_key_that_comes_twice_is_told_once(self):
        self.assertEqual(rising_keys(["b", "a", "b", "a", "b"]), ("a", "b"))

    def test_of_a_book(self):
        self.assertEqual(rising_keys({"z": 1, "aa": 2, "a": 3}), ("a", "aa", "z"))

    def test_a_key_beyond_four_letters_is_not_refused(self):
        self.assertEqual(rising_keys(["b", "aaaaa"]), ("aaaaa", "b"))

    def test_what_is_told_is_a_tuple(self):
        self.assertIs(type(rising_keys(["b", "a"])), tuple)

    def test_what_is_handed_in_is_not_changed(self):
        given = ["b", "a", "b"]
        rising_keys(given)
        self.assertEqual(given, ["b", "a", "b"])
        book = {"z": 1, "a": 2}
        rising_keys(book)
        self.assertEqual(list(book.items()), [("z", 1), ("a", 2)])


class TestValueUnder(unittest.TestCase):
    def test_nothing_but_0_at_first(self):
        for key in ("a", "z", "aaaa", "zzzz"):
            value = value_under({}, key)
            self.assertEqual(value, 0)
            self.assertIs(type(value), int)

    def test_what_was_written(self):
        book = {"a": 5, "aa": -3, "zzzz": 10**30, "b": 0}
        self.assertEqual([value_under(book, key) for key in book], [5, -3, 10**30, 0])

    def test_keys_are_whole_texts(self):
        self.assertEqual(value_under({"a": 5, "ab": 6}, "aa"), 0)
        self.assertEqual(value_under({"aa": 5}, "a"), 0)

    def test_asking_leaves_no_trace_in_the_book(self):
        book = {"b": 1}
        value_under(book, "a")
        value_under(book, "b")
        self.assertEqual(book, {"b": 1})


class TestRisingPairs(unittest.TestCase):
    def test_an_empty_book(self):
        self.assertEqual(rising_pairs({}), ())

    def test_pairs_rise_by_keys_and_not_by_values(self):
        book = {"zzzz": 1, "b": 2, "aa": 3, "a": 4}
        self.assertEqual(rising_pairs(book), (("a", 4), ("aa", 3), ("b", 2), ("zzzz", 1)))

    def test_a_0_that_stands_there_is_told_too(self):
        self.assertEqual(rising_pairs({"b": 0, "a": -1}), (("a", -1), ("b", 0)))

    def test_what_is_told_is_tuples(self):
        told = rising_pairs({"b": 1, "a": 2})
        self.assertIs(type(told), tuple)
        for pair in told:
            self.assertIs(type(pair), tuple)

    def test_the_book_is_not_changed(self):
        book = {"b": 1, "a": 2}
        rising_pairs(book)
        self.assertEqual(list(book.items()), [("b", 1), ("a", 2)])


if __name__ == "__main__":
    unittest.main()
