import unittest

from lettercell.words import is_key, is_name, is_whole, is_word, row_in, spread

PLAIN = [chr(code) for code in range(32, 127) if code != 37]
NAME_SIGNS = "abcdefghijklmnopqrstuvwxyz0123456789"


class Odd:
    """A thing that can't be compared, measured, walked or hashed."""

    __hash__ = None

    def refuse(self, *things):
        raise RuntimeError("not this thing")

    __eq__ = __ne__ = __lt__ = __le__ = __gt__ = __ge__ = refuse
    __len__ = __iter__ = __bool__ = __contains__ = __index__ = __int__ = refuse


NO_TEXTS = [True, False, 0, 1, -1, 10 ** 40, 1.5, float("nan"), float("inf"), 1j, b"", b"a", bytearray(b"a"), [], ["a"],
            (), ("a",), {}, {"a": "a"}, set(), {"a"}, frozenset(["a"]), range(3), object(), Odd(), Odd, len, str, ...,
            NotImplemented, ValueError("a"), lambda: "a", iter("a")]


class TestForms(unittest.TestCase):
    def told(self, ask, thing, answer):
        with self.subTest(ask=ask.__name__, text=thing if isinstance(thing, str) else id(thing)):
            self.assertIs(ask(thing), answer)

    def test_ordinary_texts(self):
        for thing in ["a", "z", "0", "9", "7up", "cellar", "abc123"]:
            self.told(is_name, thing, True)
            self.told(is_key, thing, True)
            self.told(is_word, thing, True)
        for thing in ["a b", "Key", "a-b", "a;b", "~", " ", "=", "!\"#$&'()*+,-./:<=>?@[\\]"]:
            self.told(is_name, thing, False)
            self.told(is_key, thing, True)
            self.told(is_word, thing, True)

    def test_how_many_signs(self):
        for many in [0, 1, 2, 11, 12, 13, 23, 24, 25, 199, 200, 201, 5000]:
            self.told(is_name, "a" * many, 1 <= many <= 12)
            self.told(is_key, "a" * many, 1 <= many <= 24)
            self.told(is_key, " " * many, 1 <= many <= 24)
            self.told(is_word, "~" * many, many <= 200)

    def test_each_sign_by_itself_and_at_any_spot(self):
        for code in range(256):
            sign = chr(code)
            for thing in [sign, sign + "ab", "a" + sign + "b", "ab" + sign]:
                self.told(is_name, thing, sign in NAME_SIGNS)
                self.told(is_key, thing, sign in PLAIN)
                self.told(is_word, thing, sign in PLAIN)

    def test_signs_that_are_out(self):
        for sign in ["\n", "\t", "\r", "\0", "\x1f", "%", "\x7f"]:
            for thing in [sign, "a" + sign, sign + "a", "a" + sign + "a"]:
                self.told(is_name, thing, False)
                self.told(is_key, thing, False)
                self.told(is_word, thing, False)

    def test_a_name_has_no_upper_case_letters(self):
        for thing in ["A", "Z", "aB", "Ab", "CELLAR"]:
            self.told(is_name, thing, False)

    def test_none_is_a_word_alone(self):
        self.told(is_name, None, False)
        self.told(is_key, None, False)
        self.told(is_word, None, True)

    def test_things_of_whatever_kind(self):
        for thing in NO_TEXTS:
            self.told(is_name, thing, False)
            self.told(is_key, thing, False)
            self.told(is_word, thing, False)


class TestWhole(unittest.TestCase):
    def test_from_low_to_high(self):
        for low, high in [(0, 0), (0, 9), (1, 6), (-5, 5), (1, 10 ** 9), (0, 10 ** 30)]:
            for thing in [low, low + 1, high - 1, high]:
                self.assertIs(is_whole(thing, low, high), low <= thing <= high)
            self.assertIs(is_whole(low, low, high), True)
            self.assertIs(is_whole(high, low, high), True)
            self.assertIs(is_whole(low - 1, low, high), False)
            self.assertIs(is_whole(high + 1, low, high), False)

    def test_nothing_lies_between_when_low_is_above_high(self):
        for thing in [0, 1, 2, 3]:
            self.assertIs(is_whole(thing, 2, 1), False)

    def test_things_of_whatever_kind(self):
        for thing in NO_TEXTS + [None, "", "1", "a"]:
            if isinstance(thing, int) and not isinstance(thing, bool):
                continue
            with self.subTest(thing=id(thing)):
                self.assertIs(is_whole(thing, 0, 10 ** 9), False)
                self.assertIs(is_whole(thing, -3, 3), False)

    def test_truths_are_no_whole_numbers(self):
        self.assertIs(is_whole(True, 0, 1), False)
        self.assertIs(is_whole(False, 0, 1), False)
        self.assertIs(is_whole(1, 0, 1), True)
        self.assertIs(is_whole(0, 0, 1), True)

    def test_arguments_by_name(self):
        self.assertIs(is_whole(thing=3, low=1, high=3), True)
        self.assertIs(is_name(thing="a"), True)
        self.assertIs(is_key(thing="a"), True)
        self.assertIs(is_word(thing="a"), True)


class TestSpread(unittest.TestCase):
    def test_reckoned_by_hand(self):
        # a: 1 * 37 + 97 = 134, and nothing above its lowest eight bits.
        self.assertEqual(spread("a"), 134)
        # ab: 134 * 37 + 98 = 5056 = 19 * 256 + 192, and 192 ^ 19 = 211.
        self.assertEqual(spread("ab"), 19 * 256 + 211)
        # abc: 5056 * 37 + 99 = 187171, less 2 * 65536 is 56099 = 219 * 256 + 35, and 35 ^ 219 = 248.
        self.assertEqual(spread("abc"), 219 * 256 + 248)
        # ba: (37 + 98) * 37 + 97 = 5092 = 19 * 256 + 228, and 228 ^ 19 = 247.
        self.assertEqual(spread("ba"), 19 * 256 + 247)
        # The blank, ~ and 0: 37 + 32, 37 + 126, 37 + 48.
        self.assertEqual(spread(" "), 69)
        self.assertEqual(spread("~"), 163)
        self.assertEqual(spread("0"), 85)

    def test_long_keys_stay_within_sixteen_bits(self):
        for sign in ["a", "~", " "]:
            for many in range(1, 25):
                self.assertIs(is_whole(spread(sign * many), 0, 65535), True)

    def test_row_of_one(self):
        for key in ["a", "ab", "abc", " ", "~" * 24]:
            self.assertEqual(row_in(key, 1), 0)

    def test_row_of_nine(self):
        # 134 = 14 * 9 + 8; 5075 = 563 * 9 + 8; 56312 = 6256 * 9 + 8; 69 = 7 * 9 + 6; 163 = 18 * 9 + 1; 85 = 9 * 9 + 4
        told = [row_in(key, 9) for key in ["a", "ab", "abc", " ", "~", "0"]]
        self.assertEqual(told, [8, 8, 8, 6, 1, 4])

    def test_row_of_others(self):
        # 134 = 19 * 7 + 1; 5075 = 725 * 7; 56312 = 8044 * 7 + 4
        self.assertEqual([row_in(key, 7) for key in ["a", "ab", "abc"]], [1, 0, 4])
        self.assertEqual([row_in(key, 2) for key in ["a", "ab", "abc"]], [0, 1, 0])
        self.assertEqual([row_in(key, 1000) for key in ["a", "ab", "abc"]], [134, 75, 312])
        self.assertEqual([row_in(key, 10 ** 9) for key in ["a", "ab", "abc"]], [134, 5075, 56312])

    def test_row_is_one_of_many(self):
        for many in range(1, 12):
            rows = [row_in(f"key {k}", many) for k in range(300)]
            self.assertEqual(sorted(set(rows)), list(range(many)))

    def test_arguments_by_name(self):
        self.assertEqual(spread(key="a"), 134)
        self.assertEqual(row_in(key="a", many=9), 8)
