"""What words make: points 67, 68 and 69, and what point 1 says of their arguments."""

import itertools
import random
import unittest

from restlesshelf.groups import (
    all_agree,
    alone,
    are_even,
    blocks,
    comes_round,
    made_by,
    never,
    orbits,
    shows_never,
    stirring,
    word_for,
)
from restlesshelf.shelves import after, front_habit, neighbour_habit, order, turning_habit
from tests import helpers

SWAP = ((1, 0), (0, 1))
STILL = ((0, 1), (0, 1))
PAIR = ((1, 0, 2), (0, 1, 2), (0, 1, 2))
# Turns two pairs of places within themselves, or both into one another.
SQUARE = ((1, 0, 2, 3), (0, 1, 3, 2), (2, 3, 0, 1), (0, 1, 2, 3))
# Makes all even permutations of four places.
EVEN = ((1, 2, 0, 3), (0, 2, 3, 1), (0, 1, 2, 3), (0, 1, 2, 3))
ROUND = ((1, 2, 3, 4, 0),) * 5
# Makes twenty permutations of five places: no orbit, sign or parting tells which others it doesn't.
TWENTY = ((1, 2, 3, 4, 0), (0, 2, 4, 1, 3)) + ((0, 1, 2, 3, 4),) * 3
# Makes the even ones of those twenty alone.
TEN = ((1, 2, 3, 4, 0), (0, 4, 3, 2, 1)) + ((0, 1, 2, 3, 4),) * 3


def some_habits(source, many):
    """Random habits, many of which make only few permutations."""
    for _ in range(many):
        places = source.randint(2, 5)
        habit = helpers.random_habit(source, places)
        kind = source.randrange(5)
        if kind == 0:
            habit = (source.choice(habit),) * places
        elif kind == 1:
            habit = (habit[0], habit[1]) + (tuple(range(places)),) * (places - 2)
        elif kind == 2:
            habit = (habit[0],) + (tuple(range(places)),) * (places - 1)
        elif kind == 3:
            split = source.randint(1, places - 1)
            habit = tuple(moves_within(source, places, split) for _ in range(places))
        yield habit


def moves_within(source, places, split):
    """A permutation that moves nothing from the places before a split to those behind it."""
    low, high = list(range(split)), list(range(split, places))
    source.shuffle(low)
    source.shuffle(high)
    return tuple(low + high)


def behind(moves, further):
    """The permutation that does one and then a further one."""
    return tuple(further[place] for place in moves)


def least_words(habit):
    """For each permutation that words make the least of its shortest words, found word by word."""
    words = {tuple(range(len(habit))): ()}
    level = list(words)
    while level:
        found = []
        for moves in level:
            for touch, further in enumerate(habit):
                new = behind(moves, further)
                if new not in words:
                    words[new] = words[moves] + (touch,)
                    found.append(new)
        level = found
    return words


def cycle_lengths(moves):
    lengths, left = [], set(range(len(moves)))
    while left:
        place, length = min(left), 0
        while place in left:
            left.remove(place)
            place, length = moves[place], length + 1
        lengths.append(length)
    return lengths


def is_even(moves):
    return (len(moves) - len(cycle_lengths(moves))) % 2 == 0


def slow_partings(places):
    """All partings, told by a number for each place."""
    found = set()
    for row in itertools.product(range(places), repeat=places):
        parts = [tuple(place for place in range(places) if row[place] == number) for number in range(places)]
        found.add(tuple(sorted(part for part in parts if part)))
    return found


def keeps(moves, parting):
    return {frozenset(moves[place] for place in part) for part in parting} == {frozenset(part) for part in parting}


class ExampleTests(unittest.TestCase):
    def test_examples(self):
        self.assertEqual([made_by(PAIR, (0, 1)), orbits(PAIR), blocks(PAIR)], [(1, 0, 2), ((0, 1), (2,)), (((0, 1), (2,)),)])
        self.assertEqual([never(PAIR, (0, 2, 1)), stirring(PAIR)], [("orbit", 1), None])


class WordTests(unittest.TestCase):
    def test_made_by_is_what_a_layout_shows(self):
        source = random.Random(221)
        for habit in some_habits(source, 80):
            places = len(habit)
            word = tuple(source.randrange(places) for _ in range(source.choice((0, 1, 2, 5, 40))))
            moves = made_by(habit, word)
            layout = helpers.random_layout(source, places)
            self.assertEqual(after(habit, layout, word), behind(layout, moves))
        self.assertEqual(made_by(SWAP, ()), (0, 1))
        self.assertEqual(made_by(SWAP, (0,) * 400), (0, 1))
        self.assertEqual(made_by(SWAP, (0,) * 399), (1, 0))
        self.assertEqual(made_by(front_habit(3), (2, 1)), behind((1, 2, 0), (1, 0, 2)))

    def test_word_for_all_permutations(self):
        source = random.Random(222)
        for habit in some_habits(source, 40):
            words = least_words(habit)
            for moves in helpers.all_layouts(len(habit)):
                word = word_for(habit, moves)
                self.assertEqual(word, words.get(moves))
                if word is not None:
                    self.assertEqual(made_by(habit, word), moves)

    def test_word_for_by_hand(self):
        self.assertEqual([word_for(STILL, (0, 1)), word_for(STILL, (1, 0)), word_for(SWAP, (1, 0))], [(), None, (0,)])
        # Two words of two touches make it, this is the least one.
        self.assertEqual(word_for(((1, 0, 2), (0, 2, 1), (2, 0, 1)), (2, 0, 1)), (2,))
        self.assertEqual(word_for(((1, 0, 2), (1, 0, 2), (0, 2, 1)), (2, 0, 1)), (0, 2))

    def test_comes_round(self):
        source = random.Random(223)
        for habit in some_habits(source, 80):
            places = len(habit)
            word = tuple(source.randrange(places) for _ in range(source.randint(0, 12)))
            rounds, layout, start = 1, None, helpers.random_layout(source, places)
            layout = after(habit, start, word)
            while layout != start:
                layout = after(habit, layout, word)
                rounds += 1
            self.assertEqual(comes_round(habit, word), rounds)
        self.assertEqual([comes_round(SWAP, ()), comes_round(SWAP, (1,)), comes_round(SWAP, (0,))], [1, 1, 2])
        self.assertEqual(comes_round(((1, 0, 3, 4, 2),) * 5, (3,)), 6)
        self.assertEqual(comes_round(ROUND, (0,) * 400), 1)

    def test_alone(self):
        source = random.Random(224)
        for habit in some_habits(source, 60):
            words = least_words(habit)
            for place in range(len(habit)):
                count = alone(habit, place)
                self.assertEqual(count, len([moves for moves in words if moves[place] == place]))
                reached = [orbit for orbit in orbits(habit) if place in orbit][0]
                self.assertEqual(count * len(reached), order(habit))
        self.assertEqual([alone(front_habit(5), 2), alone(STILL, 0), alone(ROUND, 4), alone(TWENTY, 0)], [24, 1, 1, 4])

    def test_stirring(self):
        source = random.Random(225)
        for habit in some_habits(source, 80):
            stirred = [word for moves, word in least_words(habit).items() if all(moves[at] != at for at in range(len(moves)))]
            least = min(stirred, key=lambda word: (len(word), word), default=None)
            self.assertEqual(stirring(habit), least)
        self.assertEqual([stirring(STILL), stirring(SWAP), stirring(ROUND)], [None, (0,), (0,)])
        self.assertEqual(stirring(neighbour_habit(4)), (1, 3))
        self.assertIsNone(stirring(((1, 0, 2), (0, 1, 2), (1, 0, 2))))

    def test_all_agree(self):
        source = random.Random(226)
        seen = set()
        for habit in some_habits(source, 120):
            pairs = itertools.product(habit, repeat=2)
            told = all(behind(one, other) == behind(other, one) for one, other in pairs)
            seen.add(told)
            self.assertIs(all_agree(habit), told)
        self.assertEqual(seen, {True, False})
        self.assertIs(all_agree(turning_habit(5)), True)
        self.assertIs(all_agree(neighbour_habit(3)), False)
        self.assertIs(all_agree(STILL), True)


class PartingTests(unittest.TestCase):
    def test_orbits(self):
        source = random.Random(227)
        for habit in some_habits(source, 80):
            words = least_words(habit)
            reached = {tuple(sorted({moves[place] for moves in words})) for place in range(len(habit))}
            self.assertEqual(orbits(habit), tuple(sorted(reached)))
        self.assertEqual([orbits(STILL), orbits(front_habit(4))], [((0,), (1,)), ((0, 1, 2, 3),)])
        self.assertEqual(orbits(((0, 2, 1, 4, 3),) * 5), ((0,), (1, 2), (3, 4)))
        self.assertEqual(orbits(((3, 1, 2, 0),) * 4), ((0, 3), (1,), (2,)))

    def test_are_even(self):
        source = random.Random(228)
        for habit in some_habits(source, 80):
            self.assertIs(are_even(habit), all(is_even(moves) for moves in habit))
        told = [are_even(STILL), are_even(SWAP), are_even(turning_habit(5)), are_even(front_habit(3)), are_even(EVEN)]
        self.assertEqual(told, [True, False, True, False, True])

    def test_blocks(self):
        source = random.Random(229)
        partings = {places: slow_partings(places) for places in range(2, 6)}
        self.assertEqual([len(partings[places]) for places in range(2, 6)], [2, 5, 15, 52])
        for habit in some_habits(source, 80):
            places = len(habit)
            kept = [parting for parting in partings[places] if all(keeps(moves, parting) for moves in habit)]
            self.assertEqual(blocks(habit), tuple(sorted(parting for parting in kept if 1 < len(parting) < places)))

    def test_blocks_by_hand(self):
        self.assertEqual([blocks(STILL), blocks(SWAP), blocks(front_habit(5)), blocks(ROUND)], [(), (), (), ()])
        still = ((0, 1, 2),) * 3
        self.assertEqual(blocks(still), (((0,), (1, 2)), ((0, 1), (2,)), ((0, 2), (1,))))
        self.assertEqual(blocks(((0, 1, 2, 3, 4),) * 5), tuple(sorted(
            parting for parting in slow_partings(5) if 1 < len(parting) < 5)))
        self.assertEqual(blocks(SQUARE), (((0, 1), (2, 3)),))
        # The habit with several partings: all four places turn round.
        self.assertEqual(blocks(((1, 2, 3, 0),) * 4), (((0, 2), (1, 3)),))
        both = ((1, 0, 3, 2), (2, 3, 0, 1), (0, 1, 2, 3), (0, 1, 2, 3))
        self.assertEqual(blocks(both), (((0, 1), (2, 3)), ((0, 2), (1, 3)), ((0, 3), (1, 2))))


def slow_reasons(habit, permutation):
    """All values that are reasons, those told first ahead."""
    words = least_words(habit)
    if permutation in words:
        return []
    rows = [("orbit", place) for orbit in orbits(habit) for place in orbit if permutation[place] not in orbit]
    if all(is_even(moves) for moves in habit) and not is_even(permutation):
        rows.append(("even",))
    rows += [("blocks", parting) for parting in blocks(habit) if not keeps(permutation, parting)]
    return rows + [("closed",)]


class NeverTests(unittest.TestCase):
    def test_each_reason(self):
        self.assertEqual(never(PAIR, (2, 1, 0)), ("orbit", 0))
        self.assertEqual(never(PAIR, (0, 2, 1)), ("orbit", 1))
        self.assertEqual(never(EVEN, (1, 0, 2, 3)), ("even",))
        self.assertEqual(never(SQUARE, (0, 2, 1, 3)), ("blocks", ((0, 1), (2, 3))))
        self.assertEqual(never(TWENTY, (1, 0, 2, 3, 4)), ("closed",))
        self.assertEqual(never(TEN, (1, 0, 2, 3, 4)), ("even",))
        self.assertEqual(never(TEN, (1, 0, 3, 2, 4)), ("closed",))
        self.assertIsNone(never(TEN, (0, 4, 3, 2, 1)))
        self.assertIsNone(never(STILL, (0, 1)))
        self.assertEqual(never(STILL, (1, 0)), ("orbit", 0))

    def test_orbit_by_orbit(self):
        # The orbits are (0, 3), (1, 2) and (4,): place 3 is looked at ahead of place 1.
        habit = ((3, 2, 1, 0, 4),) * 5
        self.assertEqual(orbits(habit), ((0, 3), (1, 2), (4,)))
        self.assertEqual(never(habit, (0, 4, 2, 1, 3)), ("orbit", 3))
        self.assertEqual(never(habit, (3, 1, 4, 0, 2)), ("orbit", 2))

    def test_the_first_parting(self):
        both = ((1, 0, 3, 2), (2, 3, 0, 1), (0, 1, 2, 3), (0, 1, 2, 3))
        self.assertEqual(never(both, (1, 2, 3, 0)), ("even",))
        # Three of them turn: no orbit or sign is against it, and none of the partings is kept.
        self.assertEqual(never(both, (1, 2, 0, 3)), ("blocks", ((0, 1), (2, 3))))
        for parting in blocks(both):
            self.assertIs(shows_never(both, (1, 2, 0, 3), ("blocks", parting)), True)

    def test_all_permutations(self):
        source = random.Random(230)
        told = {}
        for habit in list(some_habits(source, 50)) + [EVEN, SQUARE, TWENTY, TEN]:
            for moves in helpers.all_layouts(len(habit)):
                reasons = slow_reasons(habit, moves)
                first = never(habit, moves)
                self.assertEqual(first, reasons[0] if reasons else None)
                told[first and first[0]] = told.get(first and first[0], 0) + 1
        self.assertEqual(set(told), {None, "orbit", "even", "blocks", "closed"})
        self.assertGreater(min(told.values()), 20)

    def test_all_values(self):
        source = random.Random(231)
        for habit in list(some_habits(source, 25)) + [EVEN, SQUARE, TWENTY, TEN]:
            places = len(habit)
            values = [("orbit", place) for place in range(-1, places + 1)] + [("even",), ("closed",), None]
            values += [("blocks", parting) for parting in sorted(slow_partings(places))]
            for moves in source.sample(helpers.all_layouts(places), 2):
                reasons = slow_reasons(habit, moves)
                for value in values:
                    self.assertIs(shows_never(habit, moves, value), value in reasons)

    def test_any_value(self):
        values = list(helpers.ODD) + [
            (), 0, "orbit", "even", ("orbit",), ("orbit", True), ("orbit", False), ("orbit", None), ("orbit", 0, 0),
            ("orbit", -1), ("orbit", 3), ("orbit", (1,)), ["orbit", 1], ("even", 0), ("even", ()), ("even", True), ["even"],
            ("blocks",), ("blocks", ()), ("blocks", None), ("blocks", True), ("blocks", [(0, 1), (2,)]), ("closed", None),
            ("blocks", ([0, 1], (2,))), ("blocks", ((0, True), (2,))), ("blocks", ((False, 1), (2,))), ["closed"], ("Closed",),
            ("blocks", ((2,), (0, 1))), ("blocks", ((1, 0), (2,))), ("blocks", ((0, 1, 2),)), ("blocks", ((0,), (1,), (2,))),
            ("blocks", ((0, 1), (2,)), 0), (None,), (0,), (("even",),), {"orbit": 1}, ("blocks", {}), ("blocks", 5), b"even",
        ]
        for value in values:
            self.assertIs(shows_never(PAIR, (0, 2, 1), value), False)
            self.assertIs(shows_never(PAIR, (1, 0, 2), value), False)
        self.assertIs(shows_never(PAIR, (0, 2, 1), ("orbit", 1)), True)
        self.assertIs(shows_never(PAIR, (0, 2, 1), ("orbit", 2)), True)
        self.assertIs(shows_never(PAIR, (0, 2, 1), ("orbit", 0)), False)
        self.assertIs(shows_never(PAIR, (0, 2, 1), ("blocks", ((0, 1), (2,)))), True)
        self.assertIs(shows_never(PAIR, (0, 2, 1), ("closed",)), True)
        self.assertIs(shows_never(PAIR, (1, 0, 2), ("closed",)), False)


class WrongArgumentTests(unittest.TestCase):
    def test_wrong_arguments(self):
        habits = helpers.bad_habits()
        for function in (stirring, all_agree, orbits, are_even, blocks):
            helpers.assert_names_wrong_arguments(self, function, (SWAP,), [habits])
        for function in (made_by, comes_round):
            helpers.assert_names_wrong_arguments(self, function, (SWAP, (0, 1)), [habits, helpers.bad_words()])
        helpers.assert_names_wrong_arguments(self, alone, (SWAP, 1), [habits, helpers.bad_places()])
        for function in (word_for, never):
            helpers.assert_names_wrong_arguments(self, function, (SWAP, (1, 0)), [habits, helpers.bad_layouts()])
        rows = [habits, helpers.bad_layouts(), []]
        helpers.assert_names_wrong_arguments(self, shows_never, (SWAP, (1, 0), None), rows)


if __name__ == "__main__":
    unittest.main()
