import unittest

from helper import Numbers, refusal
from lettercell.book import Book, acts_of, book_of
from lettercell.errors import Broken
from lettercell.lines import line_of

ACTS = [["shelves;a;1;table"], ["+a", ".b", "c"], [""], ["", ""], ["x", "", "y~w", ";"], ["+"], ["."], ["last", "one"]]


def written(acts):
    book = Book()
    for act in acts:
        book.write(act)
    return book


def whole_ones(acts, many):
    """The acts all of whose lines are among the first so many, and how many lines they have."""
    told = []
    lines = 0
    for act in acts:
        if lines + len(act) > many:
            break
        told.append(act)
        lines += len(act)
    return (told, lines)


class TestWriting(unittest.TestCase):
    def test_a_book_begins_without_lines(self):
        self.assertEqual(Book().told(), [])

    def test_lines_to_the_sign(self):
        book = Book()
        self.assertEqual(book.write(["a"]), 1)
        self.assertEqual(book.write(["b", "", "c"]), 4)
        self.assertEqual(book.write([""]), 5)
        # . is 46, + is 43; .a: 92 ^ 97 = 61, +b: 86 ^ 98 = 52, .c: 92 ^ 99 = 63
        self.assertEqual(book.told(), ["000000 00061 0002 .a", "000001 00052 0002 +b", "000002 00043 0001 +",
                                       "000003 00063 0002 .c", "000004 00046 0001 ."])

    def test_the_sign_of_each_line(self):
        book = written(ACTS)
        signs = [line[18] for line in book.told()]
        self.assertEqual("".join(signs), ".++..+.+++...+.")
        self.assertEqual([line[19:] for line in book.told()], [body for act in ACTS for body in act])
        self.assertEqual([line[:6] for line in book.told()], [str(k).zfill(6) for k in range(len(signs))])

    def test_long_bodies(self):
        book = written([["a" * 9998], ["b" * 9998, "c"]])
        self.assertEqual(acts_of(book.told()), ([["a" * 9998], ["b" * 9998, "c"]], 3))

    def test_lists_are_the_askers_own(self):
        act = ["a", "b"]
        book = Book()
        book.write(act)
        act.append("c")
        act[0] = "z"
        told = book.told()
        told.clear()
        self.assertEqual(acts_of(book.told()), ([["a", "b"]], 2))
        book.write(["d"])
        self.assertEqual(told, [])
        self.assertEqual(len(book.told()), 3)

    def test_what_is_written_is_not_changed(self):
        act = ["a", "b"]
        Book().write(act)
        self.assertEqual(act, ["a", "b"])

    def test_two_books_share_nothing(self):
        one = Book()
        one.write(["a"])
        self.assertEqual(Book().told(), [])

    def test_arguments_by_name(self):
        book = Book()
        self.assertEqual(book.write(bodies=["a"]), 1)
        self.assertEqual(acts_of(lines=book.told()), ([["a"]], 1))
        self.assertEqual(book_of(lines=book.told()).told(), book.told())


class TestReading(unittest.TestCase):
    def broken(self, number, lines):
        before = list(lines)
        self.assertEqual(refusal(Broken, acts_of, lines), (number,))
        self.assertEqual(refusal(Broken, book_of, lines), (number,))
        self.assertEqual(lines, before)

    def test_no_lines(self):
        self.assertEqual(acts_of([]), ([], 0))
        self.assertEqual(book_of([]).told(), [])

    def test_all_lines(self):
        lines = written(ACTS).told()
        self.assertEqual(acts_of(lines), (ACTS, len(lines)))
        self.assertIs(type(acts_of(lines)), tuple)

    def test_cut_off_between_two_lines(self):
        lines = written(ACTS).told()
        for many in range(len(lines) + 1):
            self.assertEqual(acts_of(lines[:many]), whole_ones(ACTS, many))

    def test_cut_off_within_a_line(self):
        lines = written(ACTS).told()
        for many in range(len(lines)):
            for signs in range(len(lines[many])):
                cut = lines[:many] + [lines[many][:signs]]
                self.assertEqual(acts_of(cut), whole_ones(ACTS, many))

    def test_the_last_line_spoiled_is_left_out(self):
        lines = written(ACTS).told()
        for many in range(len(lines)):
            line = lines[many]
            for k in range(len(line)):
                for other in [line[:k] + "@" + line[k + 1:], line[:k] + line[k + 1:], line[:k] + "0" + line[k:]]:
                    self.assertEqual(acts_of(lines[:many] + [other]), whole_ones(ACTS, many))
            for other in ["", line_of(many + 1, ".a"), line_of(many, "a"), line_of(many, ""), line_of(many, "-x")]:
                self.assertEqual(acts_of(lines[:many] + [other]), whole_ones(ACTS, many))

    def test_a_line_amid_spoiled(self):
        lines = written(ACTS).told()
        for many in range(len(lines) - 1):
            line = lines[many]
            for k in range(len(line)):
                self.broken(many, lines[:many] + [line[:k]] + lines[many + 1:])
                self.broken(many, lines[:many] + [line[:k] + "@" + line[k + 1:]] + lines[many + 1:])

    def test_a_body_amid_that_begins_otherwise(self):
        lines = written(ACTS).told()
        for many in range(len(lines) - 1):
            for body in ["", "a", "-", " .", "~w", ",a", "/a", "*a"]:
                self.broken(many, lines[:many] + [line_of(many, body)] + lines[many + 1:])

    def test_a_line_left_out(self):
        lines = written(ACTS).told()
        for many in range(len(lines) - 2):
            self.broken(many, lines[:many] + lines[many + 1:])
        # The line behind it is the last one then, and left out.
        many = len(lines) - 2
        self.assertEqual(acts_of(lines[:many] + lines[many + 1:]), whole_ones(ACTS, many))

    def test_a_line_written_twice(self):
        lines = written(ACTS).told()
        for many in range(len(lines) - 1):
            self.broken(many + 1, lines[:many] + [lines[many]] + lines[many:])
        self.assertEqual(acts_of(lines + [lines[-1]]), (ACTS, len(lines)))

    def test_lines_changed_about(self):
        lines = written(ACTS).told()
        for many in range(len(lines) - 1):
            self.broken(many, lines[:many] + [lines[many + 1], lines[many]] + lines[many + 2:])

    def test_the_first_of_several(self):
        lines = written(ACTS).told()
        for first in range(len(lines) - 2):
            for second in range(first + 1, len(lines)):
                spoiled = list(lines)
                spoiled[first] = spoiled[first] + "x"
                spoiled[second] = ""
                self.broken(first, spoiled)

    def test_the_last_two_spoiled(self):
        lines = written(ACTS).told()
        self.broken(len(lines) - 2, lines[:-2] + ["", ""])

    def test_acts_without_an_end(self):
        lines = [line_of(k, "+a") for k in range(5)]
        self.assertEqual(acts_of(lines), ([], 0))
        self.assertEqual(book_of(lines).told(), [])

    def test_lists_are_the_askers_own(self):
        lines = written(ACTS).told()
        acts = acts_of(lines)[0]
        acts[1].clear()
        acts.pop()
        self.assertEqual(acts_of(lines)[0], ACTS)
        self.assertEqual(lines, written(ACTS).told())


class TestBookOfLines(unittest.TestCase):
    def test_it_goes_on_behind_its_whole_acts(self):
        lines = written(ACTS).told()
        for many in range(len(lines) + 1):
            acts, kept = whole_ones(ACTS, many)
            for handed in [lines[:many], lines[:many] + ["00"]]:
                book = book_of(handed)
                self.assertEqual(book.told(), lines[:kept])
                self.assertEqual(book.write(["new", "act"]), kept + 2)
                self.assertEqual(book.told(), written(acts + [["new", "act"]]).told())

    def test_the_list_handed_in_is_neither_kept_nor_changed(self):
        lines = written(ACTS).told()
        book = book_of(lines)
        book.write(["a"])
        self.assertEqual(lines, written(ACTS).told())
        lines.clear()
        self.assertEqual(book.told()[:-1], written(ACTS).told())

    def test_two_books_of_one_list_share_nothing(self):
        lines = written(ACTS).told()
        one, other = book_of(lines), book_of(lines)
        one.write(["a"])
        self.assertEqual(other.told(), lines)

    def test_long_books_cut_anywhere(self):
        numbers = Numbers(3)
        acts = [["b" * numbers.below(4) for k in range(1 + numbers.below(4))] for n in range(60)]
        lines = written(acts).told()
        for many in range(len(lines) + 1):
            self.assertEqual(acts_of(lines[:many]), whole_ones(acts, many))
