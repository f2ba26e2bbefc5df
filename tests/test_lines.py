import itertools
import unittest

from helper import refusal
from lettercell.errors import BadWord, Broken
from lettercell.lines import body_of, joined, line_of, parted, sum_of

SIGNS = [chr(code) for code in range(32, 127) if code != 37]


def texts_of(signs, most):
    for many in range(most + 1):
        for picked in itertools.product(signs, repeat=many):
            yield "".join(picked)


def has_lone_wave(text):
    """Whether a ~ stands somewhere without a w or an s straight behind it."""
    return any(sign == "~" and text[k + 1:k + 2] not in ("w", "s") for k, sign in enumerate(text))


class TestJoined(unittest.TestCase):
    def test_to_the_sign(self):
        self.assertEqual(joined(["a"]), "a")
        self.assertEqual(joined(["a", "b", "c"]), "a;b;c")
        self.assertEqual(joined([""]), "")
        self.assertEqual(joined(["", ""]), ";")
        self.assertEqual(joined(["", "", ""]), ";;")
        self.assertEqual(joined(["~"]), "~w")
        self.assertEqual(joined([";"]), "~s")
        self.assertEqual(joined(["~s", ";w", "~w;"]), "~ws;~sw;~ww~s")
        self.assertEqual(joined(["~;~", "", "a b"]), "~w~s~w;;a b")
        self.assertEqual(joined(["~~", ";;"]), "~w~w;~s~s")

    def test_parted_by_hand(self):
        self.assertEqual(parted(""), [""])
        self.assertEqual(parted(";"), ["", ""])
        self.assertEqual(parted("a;;b"), ["a", "", "b"])
        self.assertEqual(parted("~w~s;w;s"), ["~;", "w", "s"])
        self.assertEqual(parted("~ws"), ["~s"])
        self.assertEqual(parted("~sw~ww"), [";w~w"])

    def test_one_text_of_every_mixture(self):
        for text in texts_of("~;wsa", 5):
            told = joined([text])
            self.assertNotIn(";", told)
            self.assertEqual(parted(told), [text])

    def test_several_texts_of_every_mixture(self):
        for texts in itertools.product(list(texts_of("~;ws", 2)), repeat=2):
            self.assertEqual(parted(joined(list(texts))), list(texts))
        for texts in itertools.product(list(texts_of("~;ws", 1)), repeat=4):
            self.assertEqual(parted(joined(list(texts))), list(texts))

    def test_unlike_lists_are_joined_unlike(self):
        lists = [list(texts) for many in (1, 2, 3) for texts in itertools.product(texts_of("~;w", 2), repeat=many)]
        self.assertEqual(len({joined(texts) for texts in lists}), len(lists))

    def test_many_texts_and_every_sign(self):
        self.assertEqual(parted(joined(SIGNS)), SIGNS)
        texts = ["~;ws"[k % 4] * (k % 7) for k in range(3000)]
        self.assertEqual(parted(joined(texts)), texts)
        self.assertEqual(parted(joined([""] * 500)), [""] * 500)

    def test_every_text_is_parted_or_refused(self):
        for text in texts_of("~;wsx", 5):
            if has_lone_wave(text):
                self.assertEqual(refusal(BadWord, parted, text), ())
            else:
                self.assertEqual(joined(parted(text)), text)

    def test_a_wave_at_the_end_or_ahead_of_any_other_sign(self):
        for text in ["~", "a~", "~w~", ";~", "~;", "a;b~;c", "~~w", "~~s", "~w;~"]:
            refusal(BadWord, parted, text)
        for sign in SIGNS:
            if sign not in "ws":
                refusal(BadWord, parted, "a~" + sign)
                refusal(BadWord, parted, "~" + sign + "w;b")

    def test_lists_are_the_askers_own(self):
        handed = ["a~", ";", ""]
        self.assertEqual(joined(handed), "a~w;~s;")
        self.assertEqual(handed, ["a~", ";", ""])
        told = parted("a;b")
        told.append("c")
        self.assertEqual(parted("a;b"), ["a", "b"])
        self.assertIs(type(told), list)

    def test_arguments_by_name(self):
        self.assertEqual(parted(text=joined(fields=["a", "b"])), ["a", "b"])
        self.assertEqual(sum_of(text="a"), 97)
        self.assertEqual(body_of(number=1, line=line_of(number=1, body="a")), "a")


class TestSum(unittest.TestCase):
    def test_reckoned_by_hand(self):
        self.assertEqual(sum_of(""), 0)
        self.assertEqual(sum_of("a"), 97)
        # 97 * 2 = 194 = 128 + 64 + 2; 98 = 64 + 32 + 2; what stands in one alone: 128 + 32.
        self.assertEqual(sum_of("ab"), 160)
        # 160 * 2 = 320 = 256 + 64; 99 = 64 + 32 + 2 + 1: 256 + 32 + 2 + 1.
        self.assertEqual(sum_of("abc"), 291)
        # 98 * 2 = 196 = 128 + 64 + 4; 97 = 64 + 32 + 1: 128 + 32 + 4 + 1.
        self.assertEqual(sum_of("ba"), 165)
        self.assertEqual(sum_of(" "), 32)
        self.assertEqual(sum_of("  "), 96)

    def test_the_highest_bit_goes_to_the_lowest_place(self):
        # A ` is 64 + 32: behind ten blanks' worth of going higher the highest bits come in at the lowest places.
        c = 0
        bits = [0] * 16
        for sign in "`" * 40:
            bits = [bits[15]] + bits[:15]
            for k in range(16):
                bits[k] ^= ord(sign) >> k & 1
            c += 1
            self.assertEqual(sum_of("`" * c), sum(bit << k for k, bit in enumerate(bits)))

    def test_within_sixteen_bits(self):
        for many in [1, 9, 10, 11, 100, 9999]:
            for sign in "~ @":
                self.assertIn(sum_of(sign * many), range(65536))

    def test_one_sign_changed_or_two_changed_about(self):
        text = "put;ann;1;0;2;14;key ~w;=a word ~s of some length, and more"
        for k in range(len(text)):
            for sign in SIGNS:
                if sign != text[k]:
                    self.assertNotEqual(sum_of(text), sum_of(text[:k] + sign + text[k + 1:]))
        for k in range(len(text) - 1):
            if text[k] != text[k + 1]:
                about = text[:k] + text[k + 1] + text[k] + text[k + 2:]
                self.assertNotEqual(sum_of(text), sum_of(about))


class TestLine(unittest.TestCase):
    BODIES = ["", " ", "a", "0", "000000", "abc", ".hail;ann;1", "~w;~s", " 0 0 ", "000000 00000 0000 ", "a" * 30]

    def broken(self, number, line):
        self.assertEqual(refusal(Broken, body_of, number, line), (number,))

    def test_to_the_sign(self):
        self.assertEqual(line_of(0, ""), "000000 00000 0000 ")
        self.assertEqual(line_of(7, "abc"), "000007 00291 0003 abc")
        self.assertEqual(line_of(999999, "a"), "999999 00097 0001 a")
        self.assertEqual(line_of(12, " "), "000012 00032 0001  ")
        self.assertEqual(line_of(3, "a" * 9999)[13:20], "9999 aa")

    def test_read_for_its_number(self):
        for body in self.BODIES + ["~" * 9998, "".join(SIGNS) * 106]:
            for number in [0, 1, 9, 10, 4711, 100000, 999999]:
                line = line_of(number, body)
                self.assertEqual(len(line), 18 + len(body))
                self.assertEqual(body_of(number, line), body)

    def test_refused_for_another_number(self):
        for body in self.BODIES:
            for number in [0, 1, 10, 999999]:
                for other in [0, 1, 2, 10, 11, 99999, 999998, 999999]:
                    if other != number:
                        self.broken(other, line_of(number, body))

    def test_cut_short(self):
        for body in self.BODIES:
            line = line_of(5, body)
            for many in range(len(line)):
                self.broken(5, line[:many])
            for many in range(1, len(line) + 1):
                self.broken(5, line[many:])

    def test_one_sign_changed_left_out_or_put_in(self):
        for body in self.BODIES:
            line = line_of(50, body)
            for k in range(len(line) + 1):
                for sign in "01 ~;.+aw":
                    self.broken(50, line[:k] + sign + line[k:])
                    if k < len(line) and sign != line[k]:
                        self.broken(50, line[:k] + sign + line[k + 1:])
                if k < len(line):
                    self.broken(50, line[:k] + line[k + 1:])

    def test_neighbours_changed_about(self):
        for body in self.BODIES:
            line = line_of(120, body)
            for k in range(len(line) - 1):
                if line[k] != line[k + 1]:
                    self.broken(120, line[:k] + line[k + 1] + line[k] + line[k + 2:])

    def test_every_sign_at_every_place(self):
        line = line_of(8, ".put;ann;1;0;2;0;k;=w")
        for k in range(len(line)):
            for sign in SIGNS:
                if sign != line[k]:
                    self.broken(8, line[:k] + sign + line[k + 1:])

    def test_figures_that_only_read_alike(self):
        good = line_of(7, "abc")
        self.assertEqual(good, "000007 00291 0003 abc")
        for line in ["+00007 00291 0003 abc", "     7 00291 0003 abc", "7 291 3 abc", "00007 00291 0003 abc",
                     "000007 +0291 0003 abc", "000007   291 0003 abc", "000007 0291 0003 abc", "000007 00291 +003 abc",
                     "000007 00291    3 abc", "000007 00291 3 abc", " 00007 00291 0003 abc", "0_0007 00291 0003 abc",
                     "000007 00291 0003 abc ", " 000007 00291 0003 abc", "000007  0291 0003 abc", "000007\t00291 0003 abc",
                     "-00007 00291 0003 abc", "000007 00291 0003  abc", "000007 00291 0003", ""]:
            self.broken(7, line)
        self.assertEqual(body_of(7, good), "abc")

    def test_a_body_that_looks_like_a_line(self):
        inner = line_of(3, "abc")
        self.assertEqual(body_of(4, line_of(4, inner)), inner)
        self.broken(3, line_of(4, inner))
