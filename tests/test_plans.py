import unittest

from fewstones.errors import NoLoad, NoPlan
from fewstones.plans import cost, plan_of, walked
from tests.samples import (all_layings, all_plans, load_told, loads, long_plans, neat_laying_told, no_plans,
                           no_whole_numbers, numbers, plan_told, some_plans, walked_told)


def stones_told(load):
    return len([thing for thing in neat_laying_told(load) if thing != 0])


def cost_told(plan):
    return plan.count("put") + plan.count("take")


class PlanOf(unittest.TestCase):
    def test_document_examples(self):
        self.assertEqual(plan_of(0), [])
        self.assertEqual(plan_of(-3), ["take", "double", "double", "put"])

    def test_small_loads(self):
        self.assertEqual(plan_of(1), ["put"])
        self.assertEqual(plan_of(-1), ["take"])
        self.assertEqual(plan_of(2), ["put", "double"])
        self.assertEqual(plan_of(-2), ["take", "double"])
        self.assertEqual(plan_of(3), ["put", "double", "double", "take"])
        self.assertEqual(plan_of(4), ["put", "double", "double"])
        self.assertEqual(plan_of(5), ["put", "double", "double", "put"])
        self.assertEqual(plan_of(6), ["put", "double", "double", "take", "double"])
        self.assertEqual(plan_of(-11), ["take", "double", "double", "put", "double", "double", "put"])

    def test_along_the_neat_laying(self):
        for load in loads():
            told = plan_of(load)
            self.assertIs(type(told), list)
            self.assertTrue(all(type(word) is str for word in told), load)
            self.assertEqual(told, plan_told(load))

    def test_its_words(self):
        for load in loads():
            told = plan_of(load)
            self.assertLessEqual(set(told), {"double", "put", "take"})
            if load != 0:
                self.assertIn(told[0], ("put", "take"))
            used = [place for place, word in enumerate(told) if word != "double"]
            for one, other in zip(used, used[1:]):
                self.assertGreaterEqual(other - one - 1, 2, load)

    def test_comes_to_the_load(self):
        for load in loads():
            told = plan_of(load)
            self.assertEqual(walked_told(told, 1), load)
            self.assertEqual(walked(told), load)
            self.assertEqual(walked(told, 1), load)

    def test_comes_to_the_load_times_any_number(self):
        for load in loads()[::7]:
            for number in numbers():
                self.assertEqual(walked(plan_of(load), number), load * number)

    def test_each_power_of_two_and_its_neighbours(self):
        for exponent in range(3, 333):
            power = ["double"] * exponent
            self.assertEqual(plan_of(2 ** exponent), ["put"] + power)
            self.assertEqual(plan_of(-(2 ** exponent)), ["take"] + power)
            self.assertEqual(plan_of(2 ** exponent + 1), ["put"] + power + ["put"])
            self.assertEqual(plan_of(2 ** exponent - 1), ["put"] + power + ["take"])
            self.assertEqual(plan_of(-(2 ** exponent) + 1), ["take"] + power + ["put"])
            self.assertEqual(plan_of(-(2 ** exponent) - 1), ["take"] + power + ["take"])

    def test_costs_as_much_as_its_neat_laying_has_stones(self):
        for load in loads():
            self.assertEqual(cost(plan_of(load)), stones_told(load))
            self.assertEqual(cost_told(plan_of(load)), stones_told(load))

    def test_no_short_plan_of_the_same_load_costs_less(self):
        least = {}
        for plan in all_plans(9):
            load = walked_told(plan, 1)
            least[load] = min(cost_told(plan), least.get(load, len(plan)))
        self.assertEqual(least[3], 2)
        self.assertGreater(len(least), 200)
        for load, price in least.items():
            self.assertLessEqual(cost_told(plan_of(load)), price, load)

    def test_no_short_laying_of_the_same_load_uses_fewer_stones(self):
        for laying in all_layings(7):
            self.assertLessEqual(cost_told(plan_of(load_told(laying))), len(laying) - laying.count(0))

    def test_no_plan_of_up_to_fourteen_doubles_costs_less(self):
        # Whatever their order, so many puts and takes come to a sum of so many weights of either sign.
        weights = [sign * 2 ** exponent for exponent in range(15) for sign in (1, -1)]
        cheap = {0}
        for price in range(6):
            for load in range(-1200, 1201):
                if cost_told(plan_of(load)) > price:
                    self.assertNotIn(load, cheap)
            cheap |= {load + weight for load in cheap for weight in weights}

    def test_no_whole_number_is_refused(self):
        for place, thing in enumerate(no_whole_numbers()):
            with self.subTest(place=place, kind=type(thing).__name__):
                with self.assertRaises(NoLoad):
                    plan_of(thing)


class Walked(unittest.TestCase):
    def test_word_by_word(self):
        self.assertEqual(walked([]), 0)
        self.assertEqual(walked(["put"]), 1)
        self.assertEqual(walked(["take"]), -1)
        self.assertEqual(walked(["double"]), 0)
        self.assertEqual(walked(["put", "double"]), 2)
        self.assertEqual(walked(["double", "put"]), 1)
        self.assertEqual(walked(["put", "take", "double", "take"]), -1)
        self.assertEqual(walked(["put", "double", "double", "take"], 5), 15)
        self.assertEqual(walked(["put", "double", "double", "take"], -5), -15)

    def test_the_number_left_out_is_1(self):
        for plan in some_plans():
            self.assertEqual(walked(plan), walked_told(plan, 1))
            self.assertEqual(walked(plan), walked(plan, 1))

    def test_with_any_number(self):
        for plan in some_plans():
            for number in numbers():
                self.assertEqual(walked(plan, number), walked_told(plan, 1) * number)

    def test_with_nothing(self):
        for plan in some_plans():
            self.assertEqual(walked(plan, 0), 0)

    def test_the_empty_one_with_any_number(self):
        for number in numbers():
            self.assertEqual(walked([], number), 0)

    def test_doubles_ahead(self):
        for doubles in (1, 2, 50, 999):
            self.assertEqual(walked(["double"] * doubles, 7), 0)
            self.assertEqual(walked(["double"] * doubles + ["put"], 7), 7)
            self.assertEqual(walked(["double"] * doubles + ["take"]), -1)

    def test_doubles_behind(self):
        for doubles in (1, 2, 64, 500, 999):
            self.assertEqual(walked(["put"] + ["double"] * doubles), 2 ** doubles)
            self.assertEqual(walked(["take"] + ["double"] * doubles, 10 ** 100), -(10 ** 100) * 2 ** doubles)

    def test_many_puts_behind_each_other(self):
        for many in (2, 3, 10, 1000):
            self.assertEqual(walked(["put"] * many), many)
            self.assertEqual(walked(["take"] * many, 3), -3 * many)

    def test_is_a_whole_number_and_no_truth(self):
        for plan in ([], ["put"], ["take"], ["double"], ["put", "take"], ["put"] * 1000):
            self.assertIs(type(walked(plan)), int)
            for number in numbers():
                self.assertIs(type(walked(plan, number)), int)

    def test_no_plan_is_refused(self):
        for ask in (walked, lambda plan: walked(plan, 1), lambda plan: walked(plan, 0),
                    lambda plan: walked(plan, -(10 ** 100))):
            # Made anew for each, as some of these things are used up by a walk.
            for place, thing in enumerate(no_plans()):
                with self.subTest(place=place, kind=type(thing).__name__):
                    with self.assertRaises(NoPlan):
                        ask(thing)


class Cost(unittest.TestCase):
    def test_puts_and_takes(self):
        self.assertEqual(cost(["put"]), 1)
        self.assertEqual(cost(["take"]), 1)
        self.assertEqual(cost(["take", "double", "double", "put"]), 2)

    def test_doubles_cost_nothing(self):
        self.assertEqual(cost([]), 0)
        self.assertEqual(cost(["double"]), 0)
        self.assertEqual(cost(["double"] * 1000), 0)

    def test_the_same_word_again_is_counted_again(self):
        self.assertEqual(cost(["put", "put", "put"]), 3)
        self.assertEqual(cost(["put", "take", "put", "take"]), 4)
        self.assertEqual(cost(["take"] * 1000), 1000)

    def test_held_against_a_count(self):
        for plan in list(all_plans(7)) + long_plans():
            self.assertEqual(cost(plan), cost_told(plan))

    def test_is_a_whole_number_and_no_truth(self):
        for plan in ([], ["put"], ["take"], ["double"], ["put"] * 1000):
            self.assertIs(type(cost(plan)), int)

    def test_no_plan_is_refused(self):
        for place, thing in enumerate(no_plans()):
            with self.subTest(place=place, kind=type(thing).__name__):
                with self.assertRaises(NoPlan):
                    cost(thing)


if __name__ == "__main__":
    unittest.main()
