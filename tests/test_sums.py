import unittest

from fewstones.sums import heavier, neat, parted, plus, turned
from tests.samples import (all_layings, ended_told, few_layings, load_told, long_layings, mixed, neat_laying_told,
                           neat_told, some_layings)

PLACES = (0, 1, 2, 3, 4, 5, 6, 29, 30, 31, 63, 64, 65, 133, 200, 398, 399, 400)


class Neat(unittest.TestCase):
    def test_examples(self):
        self.assertEqual(neat([1, 1]), [-1, 0, 1])
        self.assertEqual(neat([1, 0]), [1])
        self.assertEqual(neat([1, -1]), [-1])
        self.assertEqual(neat([]), [])
        self.assertEqual(neat([0, 0]), [])

    def test_may_be_longer_than_what_was_handed_in(self):
        self.assertEqual(neat([1] * 400), [-1] + [0] * 399 + [1])
        self.assertEqual(neat([-1] * 400), [1] + [0] * 399 + [-1])

    def test_the_neat_laying_of_its_load(self):
        for laying in some_layings():
            told = neat(laying)
            self.assertEqual(load_told(told), load_told(laying))
            self.assertTrue(neat_told(told), laying)

    def test_a_neat_one_stays(self):
        for laying in list(all_layings(7)) + long_layings():
            if neat_told(laying):
                self.assertEqual(neat(laying), laying)

    def test_the_last_thing_tells_the_sign(self):
        for laying in some_layings():
            told = neat(laying)
            if told:
                self.assertEqual(told[-1] == 1, load_told(laying) > 0)


class Turned(unittest.TestCase):
    def test_each_stone_on_the_other_pan(self):
        self.assertEqual(turned([1, 0, -1]), [-1, 0, 1])
        self.assertEqual(turned([]), [])
        self.assertEqual(turned([1, 1]), [-1, -1])

    def test_noughts_stay_those_at_the_end_too(self):
        self.assertEqual(turned([0, 0, 1, 0, 0]), [0, 0, -1, 0, 0])
        self.assertEqual(turned([0, 0]), [0, 0])
        self.assertEqual(turned([0] * 400), [0] * 400)

    def test_held_against_things_and_loads(self):
        other_pan = {1: -1, 0: 0, -1: 1}
        for laying in some_layings():
            told = turned(laying)
            self.assertEqual(told, [other_pan[thing] for thing in laying])
            self.assertEqual(load_told(told), -load_told(laying))
            self.assertEqual(turned(told), laying)


class Plus(unittest.TestCase):
    def test_examples(self):
        self.assertEqual(plus([1], [1]), [0, 1])
        self.assertEqual(plus([1], [0, 1]), [-1, 0, 1])
        self.assertEqual(plus([1, 0, -1], [1, 1]), [])

    def test_with_the_empty_one_it_is_made_neat(self):
        self.assertEqual(plus([], []), [])
        self.assertEqual(plus([0, 0], []), [])
        for laying in few_layings():
            self.assertEqual(plus(laying, []), neat_laying_told(load_told(laying)))
            self.assertEqual(plus([], laying), neat_laying_told(load_told(laying)))

    def test_every_two(self):
        for one in few_layings():
            for other in few_layings():
                told = plus(one, other)
                self.assertEqual(load_told(told), load_told(one) + load_told(other))
                self.assertTrue(neat_told(told), (one, other))

    def test_every_two_short_ones(self):
        short = list(all_layings(3))
        for one in short:
            for other in short:
                self.assertEqual(plus(one, other), neat_laying_told(load_told(one) + load_told(other)))

    def test_with_itself_and_with_its_turned_one(self):
        for laying in some_layings():
            self.assertEqual(plus(laying, laying), neat_laying_told(2 * load_told(laying)))
            self.assertEqual(plus(laying, turned(laying)), [])
            self.assertEqual(plus(turned(laying), laying), [])


class Heavier(unittest.TestCase):
    def test_by_the_load_alone(self):
        self.assertEqual(heavier([0, 0, 1], [1, 1]), 1)
        self.assertEqual(heavier([1, 1], [0, 0, 1]), -1)
        self.assertEqual(heavier([1, 1], [-1, 0, 1]), 0)
        self.assertEqual(heavier([1], [1, 0, 0]), 0)
        self.assertEqual(heavier([1], [0, 0, 0, -1]), 1)
        self.assertEqual(heavier([-1], [1, 1, -1]), 0)
        self.assertEqual(heavier([-1, 0], [0, -1]), 1)

    def test_with_the_empty_one(self):
        self.assertEqual(heavier([], []), 0)
        self.assertEqual(heavier([], [0, 0]), 0)
        self.assertEqual(heavier([], [1]), -1)
        self.assertEqual(heavier([], [-1]), 1)
        self.assertEqual(heavier([1], []), 1)
        self.assertEqual(heavier([-1], []), -1)

    def test_every_two(self):
        layings = few_layings() + list(all_layings(3))
        for one in layings:
            for other in layings:
                less = load_told(one) < load_told(other)
                more = load_told(one) > load_told(other)
                told = heavier(one, other)
                self.assertIs(type(told), int)
                self.assertEqual(told, 1 if more else -1 if less else 0, (one, other))

    def test_great_loads_that_lie_close(self):
        great = [0] * 399 + [1]
        more = [1] + [0] * 398 + [1]
        self.assertEqual(heavier(more, great), 1)
        self.assertEqual(heavier(great, more), -1)
        self.assertEqual(heavier(turned(more), turned(great)), -1)

    def test_with_itself_and_with_its_turned_one(self):
        for laying in some_layings():
            load = load_told(laying)
            self.assertEqual(heavier(laying, laying), 0)
            self.assertEqual(heavier(laying, list(laying)), 0)
            self.assertEqual(heavier(laying, turned(laying)), 1 if load > 0 else -1 if load < 0 else 0)


class Parted(unittest.TestCase):
    def test_upper_then_lower(self):
        self.assertEqual(parted([1, 0, -1], 1), ([0, -1], [1]))
        self.assertEqual(parted([1, 0, -1], 2), ([-1], [1]))
        self.assertEqual(parted([1, 1, 1], 2), ([1], [1, 1]))

    def test_at_the_begin(self):
        self.assertEqual(parted([1, 0, -1], 0), ([1, 0, -1], []))
        self.assertEqual(parted([1, 0, -1, 0], 0), ([1, 0, -1], []))
        self.assertEqual(parted([], 0), ([], []))

    def test_at_and_beyond_the_end(self):
        for place in (3, 4, 5, 100, 399, 400):
            self.assertEqual(parted([1, 0, -1], place), ([], [1, 0, -1]))
            self.assertEqual(parted([1, -1, 0], place), ([], [1, -1]))
            self.assertEqual(parted([], place), ([], []))

    def test_at_400_of_the_longest(self):
        self.assertEqual(parted([1] * 400, 400), ([], [1] * 400))
        self.assertEqual(parted([1] * 400, 399), ([1], [1] * 399))

    def test_both_parts_are_ended(self):
        self.assertEqual(parted([1, 0, 0, -1, 0, 0], 3), ([-1], [1]))
        self.assertEqual(parted([0, 0, 0, 0], 2), ([], []))
        self.assertEqual(parted([0, 0, 0, 1], 2), ([0, 1], []))
        self.assertEqual(parted([0, 1, 0, 0], 2), ([], [0, 1]))

    def test_is_a_tuple_of_two_lists(self):
        for laying in ([], [1], [1, 0, -1], mixed(400, 7)):
            for place in PLACES:
                told = parted(laying, place)
                self.assertIs(type(told), tuple)
                self.assertEqual([type(part) for part in told], [list, list])

    def test_held_against_the_document(self):
        for laying in some_layings():
            for place in PLACES:
                upper, lower = parted(laying, place)
                self.assertEqual(upper, ended_told(laying[place:]))
                self.assertEqual(lower, ended_told(laying[:place]))
                self.assertEqual(load_told(laying), 2 ** place * load_told(upper) + load_told(lower))

    def test_every_place_of_a_long_one(self):
        laying = mixed(400, 8)
        for place in range(401):
            upper, lower = parted(laying, place)
            self.assertEqual((upper, lower), (ended_told(laying[place:]), ended_told(laying[:place])))

    def test_of_a_neat_one(self):
        layings = [laying for laying in all_layings(7) if neat_told(laying)]
        layings += [neat_laying_told(load_told(laying)) for laying in long_layings()]
        for laying in layings:
            for place in PLACES:
                upper, lower = parted(laying, place)
                self.assertTrue(neat_told(upper) and neat_told(lower), (laying, place))
                self.assertLess(3 * abs(load_told(lower)), 2 ** (place + 1))


if __name__ == "__main__":
    unittest.main()
