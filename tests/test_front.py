import copy
import itertools
import unittest

from helper import Numbers
from lettercell.front import fronts, paper_of_fronts


def is_beneath(ends, spot):
    return spot[1] < ends[spot[0]]


def is_sound(told, ends, pairs):
    if any(a > b for a, b in zip(told, ends)):
        return False
    for fate, spots in pairs:
        beneath = [is_beneath(told, spot) for spot in spots]
        if fate == "open" and any(beneath):
            return False
        if fate == "closed" and any(beneath) and not all(beneath):
            return False
    return True


def greatest_sound(ends, pairs):
    """Found by going through all lists; that there is just one such is looked at, too."""
    sound = [told for told in itertools.product(*[range(end + 1) for end in ends]) if is_sound(told, ends, pairs)]
    tops = [top for top in sound if all(a >= b for other in sound for a, b in zip(top, other))]
    assert len(tops) == 1
    return list(tops[0])


class TestFronts(unittest.TestCase):
    def held(self, ends, pairs, wanted=None):
        before = copy.deepcopy((ends, pairs))
        told = fronts(ends, pairs)
        if wanted is None:
            wanted = greatest_sound(ends, pairs)
        self.assertEqual(told, wanted)
        self.gone_through(ends, pairs, told)
        self.assertEqual((ends, pairs), before)
        return told

    def gone_through(self, ends, pairs, told):
        now = list(ends)
        paper = paper_of_fronts(ends, pairs)
        self.assertIs(type(paper), list)
        for row, place, deed, other in paper:
            fate, spots = pairs[deed - 1]
            self.assertGreaterEqual(deed, 1)
            self.assertIn((row, place), spots)
            self.assertLess(place, now[row])
            if other is None:
                self.assertEqual(fate, "open")
            else:
                self.assertEqual(fate, "closed")
                self.assertTrue(any(spot[0] == other and not is_beneath(now, spot) for spot in spots))
            now[row] = place
        self.assertEqual(now, told)

    def test_no_deeds_and_no_rows(self):
        self.held([], [], [])
        self.held([3], [], [3])
        self.held([3, 0, 10 ** 9], [], [3, 0, 10 ** 9])
        self.held([2, 2], [("open", []), ("closed", []), ("dropped", [])], [2, 2])
        self.held([], [("open", []), ("closed", [])], [])

    def test_open_deeds(self):
        self.held([5, 5], [("open", [(0, 3), (0, 1), (1, 4)])], [1, 4])
        self.held([5, 5], [("open", [(0, 0)])], [0, 5])
        self.held([5, 5], [("open", [(0, 2)]), ("open", [(0, 3), (1, 1)])], [2, 1])

    def test_dropped_deeds_are_not_looked_at(self):
        self.held([5, 5], [("dropped", [(0, 0), (1, 1), (1, 9)])], [5, 5])

    def test_closed_deeds(self):
        self.held([5, 5], [("closed", [(0, 3), (1, 4)])], [5, 5])
        self.held([5, 5], [("closed", [(0, 3), (1, 4)]), ("open", [(1, 4)])], [3, 4])
        self.held([5, 5], [("closed", [(0, 3), (1, 2)]), ("open", [(1, 4)])], [5, 4])
        self.held([5], [("closed", [(0, 1), (0, 4)]), ("open", [(0, 3)])], [1])

    def test_chains_over_several_rows(self):
        pairs = [("closed", [(4, 2), (3, 2)]), ("closed", [(3, 1), (2, 2)]), ("closed", [(2, 1), (1, 2)]),
                 ("closed", [(1, 1), (0, 2)]), ("open", [(0, 2)])]
        self.held([9] * 5, pairs, [2, 1, 1, 1, 2])
        self.held([9] * 5, list(reversed(pairs)), [2, 1, 1, 1, 2])
        self.held([9] * 5, pairs[:-1], [9] * 5)

    def test_long_chains(self):
        many = 100
        pairs = [("closed", [(row, 5), (row + 1, 6)]) for row in range(many - 1)] + [("open", [(many - 1, 5)])]
        self.held([9] * many, pairs, [5] * many)
        self.held([9] * many, list(reversed(pairs)), [5] * many)

    def test_spots_at_and_behind_the_ends(self):
        self.held([3, 3], [("closed", [(0, 3), (1, 1)])], [3, 1])
        self.held([3, 3], [("closed", [(0, 2), (1, 10 ** 9)])], [2, 3])
        self.held([3, 3], [("closed", [(0, 3), (1, 7)])], [3, 3])
        self.held([3, 3], [("open", [(0, 3), (1, 7)])], [3, 3])
        self.held([3, 3], [("open", [(0, 2), (1, 7)])], [2, 3])
        self.held([0, 3], [("closed", [(0, 0), (1, 0)])], [0, 0])

    def test_spots_told_twice(self):
        self.held([3, 3], [("closed", [(0, 1), (0, 1)])], [3, 3])
        self.held([3, 3], [("open", [(0, 1), (0, 1), (1, 2), (1, 2)])], [1, 2])
        self.held([3, 3], [("closed", [(0, 1), (1, 3), (0, 1), (1, 3)])], [1, 3])

    def test_great_numbers(self):
        top = 10 ** 9
        self.held([top, top], [("closed", [(0, top - 1), (1, top)])], [top - 1, top])
        self.held([top, top], [("open", [(0, top - 1), (1, top)])], [top - 1, top])

    def test_small_cases_gone_through(self):
        spots = [(row, place) for row in range(2) for place in range(3)]
        sets = [list(some) for many in range(3) for some in itertools.combinations(spots, many)]
        deeds = [(fate, some) for fate in ("open", "closed") for some in sets]
        for ends in [[2, 2], [1, 2], [2, 0]]:
            for pairs in itertools.product(deeds, repeat=2):
                self.held(ends, list(pairs))

    def test_mixed_cases_gone_through(self):
        numbers = Numbers(7)
        for n in range(700):
            rows = 1 + numbers.below(4)
            ends = [numbers.below(5) for row in range(rows)]
            pairs = []
            for deed in range(numbers.below(7)):
                fate = numbers.one_of(["open", "closed", "closed", "closed", "dropped"])
                some = [(numbers.below(rows), numbers.below(6)) for spot in range(numbers.below(4))]
                pairs.append((fate, some + some[:numbers.below(2)]))
            self.held(ends, pairs)

    def test_lists_are_the_askers_own(self):
        ends, pairs = [3, 3], [("open", [(0, 1)])]
        told = fronts(ends, pairs)
        self.assertIsNot(told, ends)
        told.clear()
        paper_of_fronts(ends, pairs).clear()
        self.assertEqual(fronts(ends, pairs), [1, 3])
        self.assertEqual(paper_of_fronts(ends, pairs), [(0, 1, 1, None)])
        self.assertEqual(fronts([3], []), [3])

    def test_arguments_by_name(self):
        self.assertEqual(fronts(ends=[3], pairs=[]), [3])
        self.assertEqual(paper_of_fronts(ends=[3], pairs=[]), [])
