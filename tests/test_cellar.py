"""What the calls of a cellar do and tell: points 81 and 83 to 87."""

import unittest

from helper import refusal, shown
from lettercell.cellar import Cellar, come_up
from lettercell.errors import Late, NoSuch, NotYours

# One row each, so that each key's row is plain.
ONES = [("posts", 1, "table"), ("news", 1, "stream")]
POSTS, NEWS = 0, 1


class Case(unittest.TestCase):
    def setUp(self):
        self.cellar = Cellar(ONES)
        self.numbers = {}

    def sender(self, *names):
        for name in names:
            self.cellar.hail(name)
            self.numbers[name] = 0

    def put(self, sender, shelf, key, word="w", deed=0, life=1):
        self.numbers[sender] += 1
        return self.cellar.put(sender, life, self.numbers[sender], shelf, key, word, deed)

    def places(self, row, whole=True):
        first = self.cellar.state.rows[row].first
        return [letter[0] for letter in self.cellar.read(row, first, 1000, whole)]


class TestMaking(Case):
    def test_the_beginning(self):
        self.assertEqual(self.cellar.now(), 0)
        for row in (0, 1):
            self.assertEqual((self.cellar.front_of(row), self.cellar.floor_of(row), self.cellar.drawn_of(row)), (0, 0, 0))
            self.assertEqual(self.cellar.read(row, 0), [])

    def test_the_row_of_a_key(self):
        cellar = Cellar([("a", 3, "table"), ("b", 9, "stream"), ("c", 2, "table")])
        cellar.hail("ann")
        # The spreads: a 134, ab 5075, abc 56312.
        spots = [cellar.put("ann", 1, n, shelf, key) for n, (shelf, key) in enumerate(
            [("a", "a"), ("b", "a"), ("c", "a"), ("a", "ab"), ("b", "abc"), ("c", "ab")], start=1)]
        self.assertEqual(spots, [(2, 0), (11, 0), (12, 0), (2, 1), (11, 1), (13, 0)])

    def test_what_is_handed_in_and_told_is_nobody_elses(self):
        shelves = list(ONES)
        cellar, other = Cellar(shelves), Cellar(shelves)
        shelves.clear()
        cellar.hail("ann")
        cellar.put("ann", 1, 1, "news", "k", "w")
        cellar.found("g", "news", width=3)
        cellar.enter("g", "tom").clear()
        cellar.written().clear()
        cellar.read(NEWS, 0).clear()
        cellar.takers_of("g").clear()
        cellar.aside_of("g", NEWS).append(4)
        cellar.attach("rea", NEWS)
        cellar.look("rea")[0].clear()
        self.assertEqual(cellar.read(NEWS, 0), [(0, "k", "w")])
        self.assertEqual((cellar.takers_of("g"), cellar.aside_of("g", NEWS)), (["tom"], []))
        self.assertEqual(cellar.look("rea"), ([(0, "k", "w")], 1))
        self.assertEqual(len(cellar.written()), 7)
        self.assertEqual(shown(other), shown(Cellar(ONES)))

    def test_arguments_by_name_and_their_defaults(self):
        cellar = Cellar(shelves=ONES)
        cellar.hail(sender="ann")
        self.assertEqual(cellar.put(sender="ann", life=1, number=1, shelf="news", key="k"), (NEWS, 0))
        self.assertEqual(cellar.read(row=NEWS, start=0, most=10, whole=True), [(0, "k", None)])
        self.assertEqual(cellar.begin(sender="ann", life=1), 1)
        cellar.put(sender="ann", life=1, number=2, shelf="news", key="k", word="w", deed=1)
        cellar.found(group="g", shelf="news")
        cellar.enter(group="g", taker="tom")
        self.assertEqual(cellar.take(group="g", taker="tom", row=NEWS), (0, "k", None, 1))
        cellar.pledge(sender="ann", life=1, group="g", row=NEWS, loan=1)
        self.assertEqual(cellar.close(sender="ann", life=1), [(NEWS, 1)])
        self.assertEqual(cellar.fate_of(deed=1), "closed")
        self.assertEqual(cellar.take("g", "tom", NEWS), (1, "k", "w", 2))
        self.assertEqual(cellar.give_back(group="g", row=NEWS, loan=2), 1)
        cellar.take("g", "tom", NEWS)
        self.assertEqual(cellar.answer(group="g", row=NEWS, loan=3), 1)
        self.assertEqual(cellar.attach(reader="rea", row=NEWS), 0)
        self.assertEqual(cellar.look(reader="rea"), ([(0, "k", None), (1, "k", "w")], 2))
        self.assertEqual(cellar.look(reader="rea", most=1), ([(0, "k", None)], 1))
        self.assertEqual(cellar.advance(reader="rea", place=1), 1)
        self.assertEqual(cellar.cut(row=NEWS, place=1), [0])
        self.assertIsNone(cellar.detach(reader="rea"))
        self.assertEqual(cellar.draw(row=POSTS), [])
        self.assertEqual((cellar.front_of(row=NEWS), cellar.floor_of(row=NEWS), cellar.drawn_of(row=POSTS)), (2, 2, 0))
        self.assertEqual((cellar.mark_of(group="g", row=NEWS), cellar.owner_of(group="g", row=NEWS)), (2, "tom"))
        self.assertEqual((cellar.aside_of(group="g", row=NEWS), cellar.takers_of(group="g")), ([], ["tom"]))
        self.assertEqual(cellar.leave(group="g", taker="tom"), [(NEWS, "tom", None)])
        cellar.begin("ann", 1)
        self.assertEqual(cellar.pass_turns(many=9), 9)
        self.assertEqual(cellar.fate_of(2), "open")
        cellar.pass_turns(1)
        self.assertEqual(cellar.fate_of(2), "dropped")
        self.assertEqual(come_up(lines=cellar.written())[1], 0)

    def test_defaults_of_a_group(self):
        self.sender("ann")
        for n in range(12):
            self.put("ann", "news", "k")
        self.cellar.found("g", "news")
        self.cellar.enter("g", "tom")
        for n in range(3):
            self.assertEqual(self.cellar.take("g", "tom", NEWS)[0], 0)
            self.assertIsNone(self.cellar.take("g", "tom", NEWS))
            self.cellar.pass_turns(4)
            self.assertIsNone(self.cellar.take("g", "tom", NEWS))
            self.cellar.pass_turns(1)
        self.assertEqual(self.cellar.take("g", "tom", NEWS)[0], 1)
        self.assertEqual(self.cellar.aside_of("g", NEWS), [0])

    def test_default_of_most(self):
        self.sender("ann")
        for n in range(12):
            self.put("ann", "news", "k")
        self.cellar.attach("rea", NEWS)
        self.assertEqual(len(self.cellar.look("rea")[0]), 10)
        self.assertEqual(len(self.cellar.read(NEWS, 0)), 10)


class TestSendersAndDeeds(Case):
    def test_hail_tells_life_and_last_number(self):
        self.assertEqual(self.cellar.hail("ann"), (1, 0))
        self.cellar.put("ann", 1, 1, "news", "k")
        self.assertEqual(self.cellar.hail("ann"), (2, 1))
        self.assertEqual(self.cellar.hail("bob"), (1, 0))
        self.assertEqual(self.cellar.put("ann", 2, 2, "news", "k"), (NEWS, 1))

    def test_hail_drops_the_open_deed_first(self):
        self.sender("ann", "bob")
        self.cellar.begin("ann", 1)
        self.cellar.begin("bob", 1)
        self.put("ann", "news", "k", deed=1)
        self.put("bob", "news", "k", deed=2)
        self.assertEqual(self.cellar.hail("ann"), (2, 1))
        self.assertEqual((self.cellar.fate_of(1), self.cellar.fate_of(2)), ("dropped", "open"))
        self.assertEqual(self.places(NEWS, False), [1])
        self.assertEqual(self.cellar.begin("ann", 2), 3)

    def test_a_known_number_sent_again(self):
        self.sender("ann")
        for n in range(9):
            self.put("ann", "news", "k", f"w{n}")
        before = shown(self.cellar)
        for number in range(2, 10):
            self.assertEqual(self.cellar.put("ann", 1, number, "news", "k", f"w{number - 1}"), (NEWS, number - 1))
            self.assertEqual(self.cellar.put("ann", 1, number, "posts", "other", None, 77), (NEWS, number - 1))
        self.assertEqual(shown(self.cellar), before)

    def test_a_known_number_whatever_became_of_its_letter(self):
        self.sender("ann")
        self.put("ann", "news", "k")
        self.put("ann", "posts", "k")
        self.put("ann", "posts", "k")
        self.cellar.begin("ann", 1)
        self.put("ann", "news", "k", deed=1)
        self.cellar.drop("ann", 1)
        self.cellar.cut(NEWS, 1)
        self.cellar.draw(POSTS)
        self.cellar.hail("ann")
        lines = self.cellar.written()
        spots = [self.cellar.put("ann", 2, number, "news", "x", "y") for number in (1, 2, 3, 4)]
        self.assertEqual(spots, [(NEWS, 0), (POSTS, 0), (POSTS, 1), (NEWS, 1)])
        self.assertEqual(self.cellar.written(), lines)
        self.assertEqual(self.places(NEWS, False) + self.places(POSTS, False), [1])

    def test_a_number_goes_with_its_dropped_deed(self):
        self.sender("ann")
        self.cellar.begin("ann", 1)
        self.put("ann", "news", "k", deed=1)
        self.cellar.drop("ann", 1)
        self.assertEqual(self.cellar.put("ann", 1, 2, "news", "k"), (NEWS, 1))

    def test_a_letter_by_itself_beside_an_open_deed(self):
        self.sender("ann")
        self.put("ann", "news", "k")
        self.assertEqual(self.cellar.begin("ann", 1), 1)
        self.put("ann", "posts", "k", deed=0)
        self.put("ann", "news", "k", deed=1)
        self.assertEqual((self.cellar.front_of(POSTS), self.cellar.front_of(NEWS)), (1, 1))
        self.assertEqual(self.places(NEWS), [0])
        self.assertEqual(self.places(NEWS, False), [0, 1])
        self.assertEqual(self.cellar.close("ann", 1), [(NEWS, 1)])
        self.assertEqual(self.cellar.front_of(NEWS), 2)

    def test_a_stone_is_a_letter(self):
        self.sender("ann")
        self.put("ann", "news", "k", None)
        self.assertEqual(self.cellar.read(NEWS, 0), [(0, "k", None)])

    def test_deeds_are_numbered_in_turn(self):
        self.sender("ann", "bob")
        self.assertEqual([self.cellar.begin("ann", 1), self.cellar.begin("bob", 1)], [1, 2])
        self.cellar.close("ann", 1)
        self.assertEqual(self.cellar.begin("ann", 1), 3)
        self.assertEqual([self.cellar.fate_of(n) for n in (1, 2, 3)], ["closed", "open", "open"])

    def test_close_tells_the_letters_as_they_were_put(self):
        self.sender("ann", "bob")
        self.cellar.begin("ann", 1)
        self.put("ann", "posts", "b", deed=1)
        self.put("bob", "posts", "c")
        self.put("ann", "news", "a", deed=1)
        self.put("ann", "posts", "a", deed=1)
        self.assertEqual(self.cellar.close("ann", 1), [(POSTS, 0), (NEWS, 0), (POSTS, 2)])
        self.cellar.begin("ann", 1)
        self.assertEqual(self.cellar.close("ann", 1), [])

    def test_a_dropped_deeds_letters_are_taken_out(self):
        self.sender("ann", "bob")
        self.cellar.begin("ann", 1)
        self.put("ann", "posts", "b", deed=1)
        self.put("bob", "posts", "c")
        self.put("ann", "news", "a", deed=1)
        self.assertEqual(self.places(POSTS), [])
        self.assertEqual(self.cellar.drop("ann", 1), 1)
        self.assertEqual((self.places(POSTS), self.places(NEWS)), ([1], []))
        self.assertEqual((self.cellar.front_of(POSTS), self.cellar.front_of(NEWS)), (2, 1))
        self.assertEqual(self.cellar.fate_of(1), "dropped")

    def lent(self, turns=5):
        self.sender("ann")
        for n in range(4):
            self.put("ann", "news", "k")
        self.cellar.found("g", "news", turns, 9, 3)
        self.cellar.enter("g", "tom")
        return [self.cellar.take("g", "tom", NEWS)[3] for n in range(3)]

    def test_closing_answers_what_was_pledged(self):
        loans = self.lent()
        self.cellar.begin("ann", 1)
        for loan in (loans[2], loans[0]):
            self.assertIsNone(self.cellar.pledge("ann", 1, "g", NEWS, loan))
        self.assertEqual(self.cellar.mark_of("g", NEWS), 0)
        self.assertEqual(self.cellar.close("ann", 1), [])
        self.assertEqual(self.cellar.mark_of("g", NEWS), 1)
        for loan in (loans[2], loans[0]):
            self.assertEqual(refusal(Late, self.cellar.answer, "g", NEWS, loan), (NEWS, loan))
        self.cellar.answer("g", NEWS, loans[1])
        self.assertEqual(self.cellar.mark_of("g", NEWS), 3)

    def test_closing_with_a_pledge_that_does_not_stand(self):
        loans = self.lent()
        self.cellar.begin("ann", 1)
        self.put("ann", "posts", "k", deed=1)
        for loan in loans:
            self.cellar.pledge("ann", 1, "g", NEWS, loan)
        self.cellar.give_back("g", NEWS, loans[1])
        before = shown(self.cellar)
        self.assertEqual(refusal(Late, self.cellar.close, "ann", 1), (NEWS, loans[1]))
        self.assertEqual(shown(self.cellar), before)
        self.assertEqual(self.cellar.fate_of(1), "open")
        self.assertEqual(self.cellar.mark_of("g", NEWS), 0)
        self.assertEqual(self.cellar.drop("ann", 1), 1)
        self.assertEqual(self.cellar.answer("g", NEWS, loans[0]), 0)

    def test_closing_when_the_loans_turns_are_over(self):
        loans = self.lent(turns=5)
        self.cellar.begin("ann", 1)
        self.cellar.pledge("ann", 1, "g", NEWS, loans[0])
        self.cellar.pass_turns(4)
        self.cellar.pledge("ann", 1, "g", NEWS, loans[1])
        self.cellar.pass_turns(1)
        self.assertEqual(refusal(Late, self.cellar.close, "ann", 1), (NEWS, loans[0]))

    def test_closing_when_the_row_was_dealt_to_another(self):
        loans = self.lent()
        self.cellar.begin("ann", 1)
        self.cellar.pledge("ann", 1, "g", NEWS, loans[0])
        self.cellar.leave("g", "tom")
        self.assertEqual(refusal(Late, self.cellar.close, "ann", 1), (NEWS, loans[0]))

    def test_a_dropped_deeds_pledges_are_nothing(self):
        loans = self.lent()
        self.cellar.begin("ann", 1)
        self.cellar.pledge("ann", 1, "g", NEWS, loans[0])
        self.cellar.drop("ann", 1)
        self.assertEqual(self.cellar.mark_of("g", NEWS), 0)
        self.cellar.begin("ann", 1)
        self.assertIsNone(self.cellar.pledge("ann", 1, "g", NEWS, loans[0]))
        self.cellar.close("ann", 1)
        self.assertEqual(self.cellar.mark_of("g", NEWS), 1)

    def test_one_loan_pledged_in_two_deeds(self):
        loans = self.lent()
        self.sender("bob")
        for name in ("ann", "bob"):
            self.cellar.begin(name, 1)
            self.cellar.pledge(name, 1, "g", NEWS, loans[0])
        self.cellar.close("bob", 1)
        self.assertEqual(refusal(Late, self.cellar.close, "ann", 1), (NEWS, loans[0]))


class TestGroups(Case):
    def test_founded_where_a_row_was_cut(self):
        self.sender("ann")
        for n in range(5):
            self.put("ann", "news", "k")
        self.cellar.cut(NEWS, 3)
        self.cellar.found("g", "news")
        self.cellar.enter("g", "tom")
        self.assertEqual(self.cellar.mark_of("g", NEWS), 3)
        self.assertEqual(self.cellar.take("g", "tom", NEWS), (3, "k", "w", 1))

    def test_takers_enter_and_leave(self):
        cellar = Cellar([("a", 5, "table"), ("b", 4, "table")])
        cellar.found("g", "b")
        self.assertEqual(cellar.takers_of("g"), [])
        self.assertEqual([cellar.owner_of("g", row) for row in range(5, 9)], [None] * 4)
        self.assertEqual(cellar.enter("g", "tom"), [(row, None, "tom") for row in range(5, 9)])
        self.assertEqual(cellar.enter("g", "ann"), [(7, "tom", "ann"), (8, "tom", "ann")])
        # The greater share is ann's, the first of the two that had more than one.
        self.assertEqual(cellar.enter("g", "bob"), [(6, "tom", "bob")])
        self.assertEqual(cellar.takers_of("g"), ["ann", "bob", "tom"])
        self.assertEqual([cellar.owner_of("g", row) for row in range(5, 9)], ["tom", "bob", "ann", "ann"])
        self.assertEqual(cellar.leave("g", "tom"), [(5, "tom", "bob")])
        self.assertEqual(cellar.leave("g", "ann"), [(7, "ann", "bob"), (8, "ann", "bob")])
        self.assertEqual(cellar.leave("g", "bob"), [(row, "bob", None) for row in range(5, 9)])
        self.assertEqual(cellar.takers_of("g"), [])

    def two_rows(self, width=1):
        """Two rows of a shelf with a letter in each, and their keys."""
        cellar = Cellar([("a", 2, "stream")])
        cellar.hail("ann")
        rows = [cellar.put("ann", 1, n, "a", key) for n, key in enumerate("abcdef", start=1)]
        self.assertEqual(sorted({row for row, place in rows}), [0, 1])
        cellar.found("g", "a", 5, 9, width)
        return cellar

    def test_a_row_dealt_to_another_has_its_loans_called_back(self):
        cellar = self.two_rows()
        cellar.enter("g", "tom")
        loans = [cellar.take("g", "tom", row)[3] for row in (0, 1)]
        cellar.enter("g", "tim")
        self.assertEqual([cellar.owner_of("g", row) for row in (0, 1)], ["tom", "tim"])
        self.assertEqual(refusal(Late, cellar.answer, "g", 1, loans[1]), (1, loans[1]))
        self.assertEqual(refusal(NotYours, cellar.take, "g", "tom", 1), (1, "tim"))
        # The letter is still lent until its turns are over.
        self.assertIsNone(cellar.take("g", "tim", 1))
        cellar.pass_turns(4)
        self.assertIsNone(cellar.take("g", "tim", 1))
        self.assertEqual(cellar.answer("g", 0, loans[0]), 0)
        cellar.pass_turns(1)
        self.assertEqual(cellar.take("g", "tim", 1)[0], 0)

    def test_who_leaves_lets_go_its_loans_in_all_rows(self):
        cellar = self.two_rows()
        cellar.enter("g", "tom")
        loans = [cellar.take("g", "tom", row)[3] for row in (0, 1)]
        cellar.enter("g", "tim")
        cellar.leave("g", "tom")
        for row in (0, 1):
            self.assertEqual(refusal(Late, cellar.answer, "g", row, loans[row]), (row, loans[row]))
            self.assertEqual(cellar.take("g", "tim", row)[0], 0)

    def test_who_leaves_and_comes_again(self):
        cellar = self.two_rows()
        cellar.enter("g", "tom")
        loan = cellar.take("g", "tom", 0)[3]
        cellar.leave("g", "tom")
        cellar.enter("g", "tom")
        self.assertEqual(refusal(Late, cellar.answer, "g", 0, loan), (0, loan))
        self.assertEqual(cellar.take("g", "tom", 0)[3], loan + 1)

    def test_take_goes_beneath_the_front(self):
        self.sender("ann", "bob")
        self.cellar.begin("ann", 1)
        self.put("bob", "news", "k")
        self.put("ann", "news", "k", deed=1)
        self.put("bob", "news", "k")
        self.cellar.found("g", "news", 5, 3, 9)
        self.cellar.enter("g", "tom")
        self.assertEqual(self.cellar.take("g", "tom", NEWS)[0], 0)
        self.assertIsNone(self.cellar.take("g", "tom", NEWS))
        self.cellar.close("ann", 1)
        self.assertEqual([self.cellar.take("g", "tom", NEWS)[0] for n in range(2)], [1, 2])

    def test_take_passes_over_what_was_dropped(self):
        self.sender("ann", "bob")
        self.cellar.begin("ann", 1)
        self.put("ann", "news", "k", deed=1)
        self.put("bob", "news", "k")
        self.cellar.found("g", "news")
        self.cellar.enter("g", "tom")
        self.cellar.drop("ann", 1)
        self.assertEqual(self.cellar.take("g", "tom", NEWS)[0], 1)
        self.assertEqual(self.cellar.mark_of("g", NEWS), 1)

    def test_set_aside_also_where_nothing_is_lent(self):
        self.sender("ann")
        for n in range(2):
            self.put("ann", "news", "k")
        self.cellar.found("g", "news", 2, 1, 2)
        self.cellar.enter("g", "tom")
        for n in range(2):
            self.cellar.take("g", "tom", NEWS)
        self.assertIsNone(self.cellar.take("g", "tom", NEWS))
        self.assertEqual(self.cellar.aside_of("g", NEWS), [])
        self.cellar.pass_turns(2)
        self.assertIsNone(self.cellar.take("g", "tom", NEWS))
        self.assertEqual(self.cellar.aside_of("g", NEWS), [0, 1])
        self.assertEqual(self.cellar.mark_of("g", NEWS), 2)
        self.cellar.cut(NEWS, 2)
        self.assertEqual(self.cellar.aside_of("g", NEWS), [0, 1])

    def test_answered_and_given_back(self):
        self.sender("ann")
        for n in range(2):
            self.put("ann", "news", "k")
        self.cellar.found("g", "news")
        self.cellar.enter("g", "tom")
        self.assertEqual(self.cellar.take("g", "tom", NEWS), (0, "k", "w", 1))
        self.assertEqual(self.cellar.give_back("g", NEWS, 1), 0)
        self.assertEqual(refusal(Late, self.cellar.answer, "g", NEWS, 1), (NEWS, 1))
        self.assertEqual(self.cellar.take("g", "tom", NEWS), (0, "k", "w", 2))
        self.assertEqual(self.cellar.answer("g", NEWS, 2), 0)
        self.assertEqual(refusal(Late, self.cellar.answer, "g", NEWS, 2), (NEWS, 2))
        self.assertEqual(self.cellar.take("g", "tom", NEWS), (1, "k", "w", 3))
        self.cellar.pass_turns(5)
        for ask in (self.cellar.answer, self.cellar.give_back):
            self.assertEqual(refusal(Late, ask, "g", NEWS, 3), (NEWS, 3))

    def test_groups_beside_one_another(self):
        self.sender("ann")
        self.put("ann", "news", "k")
        for group in ("g", "h"):
            self.cellar.found(group, "news")
            self.cellar.enter(group, "tom")
            self.assertEqual(self.cellar.take(group, "tom", NEWS), (0, "k", "w", 1))
        self.cellar.answer("g", NEWS, 1)
        self.assertEqual((self.cellar.mark_of("g", NEWS), self.cellar.mark_of("h", NEWS)), (1, 0))
        self.assertEqual(self.cellar.floor_of(NEWS), 0)


class TestTurns(Case):
    def test_turns_pass(self):
        self.assertEqual([self.cellar.pass_turns(many) for many in (1, 2, 1000)], [1, 3, 1003])
        self.assertEqual(self.cellar.now(), 1003)

    def test_overdue_deeds_are_dropped_rising(self):
        self.sender("ann", "bob", "cid", "dan")
        self.cellar.pass_turns(10)
        for name, turns in [("ann", 5), ("bob", 3), ("cid", 4), ("dan", 6)]:
            self.put(name, "news", "k", deed=self.cellar.begin(name, 1, turns))
        self.cellar.pass_turns(2)
        self.assertEqual([self.cellar.fate_of(n) for n in (1, 2, 3, 4)], ["open"] * 4)
        self.cellar.pass_turns(1)
        self.assertEqual([self.cellar.fate_of(n) for n in (1, 2, 3, 4)], ["open", "dropped", "open", "open"])
        self.cellar.pass_turns(2)
        self.assertEqual([self.cellar.fate_of(n) for n in (1, 2, 3, 4)], ["dropped", "dropped", "dropped", "open"])
        self.assertEqual(self.cellar.written()[-1][19:], "drop;3")
        self.assertEqual(self.cellar.written()[-2][19:], "drop;1")
        self.assertEqual(self.places(NEWS, False), [3])
        self.assertEqual(self.cellar.begin("ann", 1), 5)


class TestReaders(Case):
    def test_attached_at_the_first(self):
        self.sender("ann")
        for n in range(4):
            self.put("ann", "news", "k", f"w{n}")
        self.assertEqual(self.cellar.attach("rea", NEWS), 0)
        self.cellar.detach("rea")
        self.cellar.cut(NEWS, 2)
        self.assertEqual(self.cellar.attach("rea", NEWS), 2)
        self.assertEqual(self.cellar.look("rea"), ([(2, "k", "w2"), (3, "k", "w3")], 4))

    def test_looked_and_advanced(self):
        self.sender("ann", "bob")
        for n in range(4):
            self.put("ann", "news", "k", f"w{n}")
        self.cellar.begin("bob", 1)
        self.put("bob", "news", "k", "deed", 1)
        self.put("ann", "news", "k", "behind")
        self.cellar.attach("rea", NEWS)
        letters = [(n, "k", f"w{n}") for n in range(4)]
        self.assertEqual(self.cellar.look("rea", 3), (letters[:3], 3))
        self.assertEqual(self.cellar.look("rea", 4), (letters, 4))
        self.assertEqual(self.cellar.look("rea", 5), (letters, 4))
        self.assertEqual(self.cellar.advance("rea", 3), 3)
        self.assertEqual(self.cellar.look("rea", 5), (letters[3:], 4))
        for place in (0, 2, 3):
            self.assertEqual(self.cellar.advance("rea", place), 3)
        self.assertEqual(self.cellar.advance("rea", 4), 4)
        self.assertEqual(self.cellar.look("rea", 5), ([], 4))
        self.cellar.drop("bob", 1)
        self.assertEqual(self.cellar.look("rea", 5), ([(5, "k", "behind")], 6))
        self.assertEqual(self.cellar.look("rea", 1), ([(5, "k", "behind")], 6))
        self.assertEqual(self.cellar.advance("rea", 5), 5)

    def test_told_to_advance_over_what_is_not_there(self):
        self.sender("ann", "bob")
        self.put("ann", "news", "k")
        self.cellar.begin("bob", 1)
        self.put("bob", "news", "k", deed=1)
        self.cellar.drop("bob", 1)
        self.cellar.attach("rea", NEWS)
        self.assertEqual(self.cellar.look("rea", 1), ([(0, "k", "w")], 1))
        self.assertEqual(self.cellar.look("rea", 2), ([(0, "k", "w")], 2))

    def test_detached_and_come_again(self):
        self.sender("ann")
        self.put("ann", "news", "k")
        self.cellar.attach("rea", NEWS)
        self.cellar.advance("rea", 1)
        self.assertIsNone(self.cellar.detach("rea"))
        self.assertEqual(refusal(NoSuch, self.cellar.look, "rea"), ("rea",))
        self.assertEqual(self.cellar.attach("rea", POSTS), 0)
        self.cellar.detach("rea")
        self.assertEqual(self.cellar.attach("rea", NEWS), 0)


class TestDrawingAndCutting(Case):
    def posts(self, signs):
        """Each letter as a key and a sign: a capital key is a stone of the small one."""
        for sign in signs:
            self.put("ann", "posts", sign.lower(), None if sign.isupper() else sign)

    def test_drawn_beneath_the_floor(self):
        self.sender("ann")
        self.posts("abaB")
        self.cellar.found("g", "posts", 5, 3, 9)
        self.cellar.enter("g", "tom")
        self.assertEqual((self.cellar.draw(POSTS), self.cellar.drawn_of(POSTS)), ([], 0))
        loans = [self.cellar.take("g", "tom", POSTS)[3] for n in range(4)]
        for loan in loans[:3]:
            self.cellar.answer("g", POSTS, loan)
        self.assertEqual(self.cellar.floor_of(POSTS), 3)
        self.assertEqual(self.cellar.draw(POSTS), [0])
        self.assertEqual(self.cellar.drawn_of(POSTS), 3)
        self.cellar.answer("g", POSTS, loans[3])
        self.assertEqual(self.cellar.draw(POSTS), [1, 3])
        self.assertEqual((self.cellar.drawn_of(POSTS), self.places(POSTS)), (4, [2]))
        self.assertEqual(self.cellar.draw(POSTS), [])

    def test_stones_wait_for_the_readers_of_the_row(self):
        self.sender("ann")
        self.posts("aAbB")
        self.cellar.attach("rea", POSTS)
        self.cellar.attach("other", NEWS)
        self.cellar.advance("rea", 2)
        self.assertEqual(self.cellar.draw(POSTS), [0, 1, 2])
        self.cellar.advance("rea", 4)
        self.assertEqual(self.cellar.draw(POSTS), [3])

    def test_drawn_not_beyond_an_open_deed(self):
        self.sender("ann", "bob")
        self.cellar.begin("bob", 1)
        self.posts("a")
        self.put("bob", "posts", "a", "x", 1)
        self.posts("a")
        self.assertEqual((self.cellar.draw(POSTS), self.cellar.drawn_of(POSTS)), ([], 1))
        self.cellar.close("bob", 1)
        self.assertEqual((self.cellar.draw(POSTS), self.cellar.drawn_of(POSTS)), ([0, 1], 3))

    def test_a_floor_goes_back_where_a_group_is_founded(self):
        self.sender("ann")
        self.posts("ab")
        self.cellar.draw(POSTS)
        self.assertEqual(self.cellar.floor_of(POSTS), 2)
        self.cellar.found("g", "posts")
        self.assertEqual((self.cellar.floor_of(POSTS), self.cellar.drawn_of(POSTS)), (0, 2))
        self.posts("ab")
        lines = self.cellar.written()
        self.assertEqual(self.cellar.draw(POSTS), [])
        self.assertEqual((self.cellar.drawn_of(POSTS), self.cellar.written()), (2, lines))

    def test_cut_no_further_than_needed(self):
        self.sender("ann", "bob")
        for n in range(3):
            self.put("ann", "news", "k")
        self.cellar.begin("bob", 1)
        self.put("bob", "news", "k", deed=1)
        self.assertEqual(self.cellar.cut(NEWS, 1), [0])
        self.assertEqual(self.cellar.cut(NEWS, 1), [])
        self.assertEqual(self.cellar.cut(NEWS, 0), [])
        self.assertEqual(self.cellar.cut(NEWS, 3), [1, 2])
        self.assertEqual(self.cellar.read(NEWS, 3, 10, False), [(3, "k", "w")])
        self.cellar.drop("bob", 1)
        self.assertEqual(self.cellar.cut(NEWS, 4), [])
        self.assertEqual(self.cellar.state.rows[NEWS].first, 4)

    def test_read_whole_and_not_whole(self):
        self.sender("ann", "bob")
        self.put("ann", "news", "k", "a")
        self.cellar.begin("bob", 1)
        self.put("bob", "news", "k", "b", 1)
        self.put("ann", "news", "k", "c")
        every = [(0, "k", "a"), (1, "k", "b"), (2, "k", "c")]
        self.assertEqual(self.cellar.read(NEWS, 0, 10, True), every[:1])
        self.assertEqual(self.cellar.read(NEWS, 0, 10, False), every)
        self.assertEqual(self.cellar.read(NEWS, 1, 1, False), every[1:2])
        self.assertEqual(self.cellar.read(NEWS, 3, 10, False), [])
        self.assertEqual(self.cellar.read(NEWS, 10 ** 9, 10, False), [])
