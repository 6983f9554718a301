"""What is handed in, what is told, what is refused, and what lies beyond a bound: [1], [2], the interface."""

import copy
import inspect
import unittest

from fewstones import layings, notes, plans, scale, sums
from fewstones.errors import NoLaying, NoPlan
from tests.samples import few_layings, loads, long_plans, mixed, no_layings, plan_told, some_plans

ASKED_OF_ONE = {
    "load_of": layings.load_of,
    "stones": layings.stones,
    "ended": layings.ended,
    "is_neat": layings.is_neat,
    "neat": sums.neat,
    "turned": sums.turned,
    "plus, first": lambda laying: sums.plus(laying, [1, 0, -1]),
    "plus, second": lambda laying: sums.plus([1, 0, -1], laying),
    "plus, first, with []": lambda laying: sums.plus(laying, []),
    "plus, second, with []": lambda laying: sums.plus([], laying),
    "plus, both": lambda laying: sums.plus(laying, laying),
    "heavier, first": lambda laying: sums.heavier(laying, [1, 0, -1]),
    "heavier, second": lambda laying: sums.heavier([1, 0, -1], laying),
    "heavier, first, with []": lambda laying: sums.heavier(laying, []),
    "heavier, second, with []": lambda laying: sums.heavier([], laying),
    "heavier, both": lambda laying: sums.heavier(laying, laying),
    "parted, 0": lambda laying: sums.parted(laying, 0),
    "parted, 1": lambda laying: sums.parted(laying, 1),
    "parted, 2": lambda laying: sums.parted(laying, 2),
    "parted, 400": lambda laying: sums.parted(laying, 400),
    "shown": notes.shown,
}

LISTS_TOLD = {
    "ended": layings.ended,
    "laid": lambda laying: layings.laid(layings.load_of(laying)),
    "neat": sums.neat,
    "turned": sums.turned,
    "plus []": lambda laying: sums.plus(laying, []),
    "[] plus": lambda laying: sums.plus([], laying),
    "plus itself": lambda laying: sums.plus(laying, laying),
    "upper part": lambda laying: sums.parted(laying, 0)[0],
    "lower part": lambda laying: sums.parted(laying, 400)[1],
    "empty upper part": lambda laying: sums.parted(laying, 400)[0],
    "empty lower part": lambda laying: sums.parted(laying, 0)[1],
    "upper part within": lambda laying: sums.parted(laying, 2)[0],
    "lower part within": lambda laying: sums.parted(laying, 2)[1],
    "read": lambda laying: notes.read(notes.shown(laying)),
    "pans": lambda laying: loaded(layings.load_of(laying)).pans(),
}

ASKED_OF_A_PLAN = {
    "walked": plans.walked,
    "walked with 3": lambda plan: plans.walked(plan, 3),
    "cost": plans.cost,
}


def loaded(load):
    one = scale.Scale()
    one.lay(load)
    return one


def asked():
    return list(ASKED_OF_ONE.items()) + [("is_laying", layings.is_laying), ("laid", LISTS_TOLD["laid"])]


class WrongInputs(unittest.TestCase):
    def test_no_laying_is_refused_at_each_argument(self):
        for name, ask in ASKED_OF_ONE.items():
            # Made anew for each, as some of these things are used up by a walk.
            for place, thing in enumerate(no_layings()):
                with self.subTest(asked=name, place=place, kind=type(thing).__name__):
                    with self.assertRaises(NoLaying):
                        ask(thing)

    def test_a_refusal_leaves_what_was_handed_in(self):
        for name, ask in ASKED_OF_ONE.items():
            for wrong in ([1, 0, 2, 0], [0, True, 0], ["+", 0, 0], [1, [0, 1], 0], [None, 0]):
                handed_in = copy.deepcopy(wrong)
                with self.subTest(asked=name, wrong=wrong):
                    with self.assertRaises(NoLaying):
                        ask(handed_in)
                    self.assertEqual(repr(handed_in), repr(wrong))

    def test_a_refusal_leaves_the_other_laying(self):
        for ask in (sums.plus, sums.heavier):
            good = [1, 1, 0]
            with self.assertRaises(NoLaying):
                ask(good, [2])
            with self.assertRaises(NoLaying):
                ask([2], good)
            self.assertEqual(good, [1, 1, 0])

    def test_a_refusal_changes_nothing_told_later(self):
        for name, ask in ASKED_OF_ONE.items():
            ahead = ask([1, 1, 0, -1, 0])
            with self.subTest(asked=name):
                with self.assertRaises(NoLaying):
                    ask([1, 1, 0, -1, 2])
                self.assertEqual(ask([1, 1, 0, -1, 0]), ahead)


class HandedIn(unittest.TestCase):
    def test_stays_as_it_was(self):
        for name, ask in asked():
            for laying in few_layings():
                handed_in = list(laying)
                ask(handed_in)
                self.assertEqual(handed_in, laying, name)

    def test_both_stay_as_they_were(self):
        for ask in (sums.plus, sums.heavier):
            for one in few_layings():
                for other in few_layings():
                    first, second = list(one), list(other)
                    ask(first, second)
                    self.assertEqual((first, second), (one, other))

    def test_changed_behind_a_call_it_is_told_anew(self):
        for name, ask in asked():
            laying = [1, 0, -1, 0]
            ask(laying)
            for changed in ([0, 1, -1, 1], [1, 1], [], [-1, 0, 1, 0, 0], [0, 0, 0]):
                laying[:] = changed
                with self.subTest(asked=name, changed=changed):
                    self.assertEqual(ask(laying), ask(list(changed)))

    def test_changed_into_no_laying_it_is_refused(self):
        for name, ask in ASKED_OF_ONE.items():
            laying = [1, 0, -1, 0]
            ask(laying)
            laying[1] = True
            with self.subTest(asked=name):
                with self.assertRaises(NoLaying):
                    ask(laying)
                self.assertIs(layings.is_laying(laying), False)


class Told(unittest.TestCase):
    def test_a_list_of_its_own(self):
        for name, ask in LISTS_TOLD.items():
            for laying in few_layings():
                with self.subTest(asked=name, laying=laying):
                    told = ask(laying)
                    self.assertIs(type(told), list)
                    self.assertTrue(all(type(thing) is int for thing in told))
                    self.assertIsNot(told, laying)
                    self.assertIsNot(told, ask(laying))

    def test_changed_by_the_asker_it_changes_nothing(self):
        for name, ask in LISTS_TOLD.items():
            for laying in few_layings():
                with self.subTest(asked=name, laying=laying):
                    handed_in = list(laying)
                    told = ask(handed_in)
                    as_told = list(told)
                    told.append(1)
                    told[0] = 7
                    self.assertEqual(handed_in, laying)
                    self.assertEqual(ask(handed_in), as_told)
                    self.assertEqual(ask(list(laying)), as_told)

    def test_nothing_asked_later_changes_it(self):
        for name, ask in LISTS_TOLD.items():
            laying = [1, 1, 0, -1, 0]
            told = ask(laying)
            as_told = list(told)
            laying[0] = 0
            laying.append(1)
            for other in few_layings() + [laying]:
                ask(other)
            self.assertEqual(told, as_told, name)

    def test_the_two_parts_are_two_lists(self):
        for laying in ([], [0, 0], [1], [1, 0, 1]):
            for place in (0, 1, 2, 400):
                upper, lower = sums.parted(laying, place)
                self.assertIsNot(upper, lower)

    def test_of_the_very_same_list_twice(self):
        laying = [1, 1, 0]
        self.assertEqual(sums.plus(laying, laying), [0, -1, 0, 1])
        self.assertEqual(sums.heavier(laying, laying), 0)
        self.assertEqual(laying, [1, 1, 0])


class PlansHandedIn(unittest.TestCase):
    def test_stay_as_they_were(self):
        for name, ask in ASKED_OF_A_PLAN.items():
            for plan in some_plans():
                handed_in = list(plan)
                ask(handed_in)
                self.assertEqual(handed_in, plan, name)

    def test_changed_behind_a_call_they_are_told_anew(self):
        for name, ask in ASKED_OF_A_PLAN.items():
            plan = ["put", "double", "take"]
            ask(plan)
            for changed in ([], ["take"], ["double", "put", "put"], ["put"] * 9, ["take", "double"]):
                plan[:] = changed
                with self.subTest(asked=name, changed=changed):
                    self.assertEqual(ask(plan), ask(list(changed)))

    def test_changed_into_no_plan_they_are_refused(self):
        for name, ask in ASKED_OF_A_PLAN.items():
            plan = ["put", "double", "take"]
            ask(plan)
            plan[1] = "Double"
            with self.subTest(asked=name):
                with self.assertRaises(NoPlan):
                    ask(plan)
                self.assertEqual(plan, ["put", "Double", "take"])
                plan[1] = "double"
                self.assertEqual(ask(plan), ask(["put", "double", "take"]))


class PlansTold(unittest.TestCase):
    def test_a_list_of_its_own(self):
        for load in loads():
            told = plans.plan_of(load)
            self.assertIsNot(told, plans.plan_of(load))
            told.append("put")
            told[0] = "x"
            self.assertEqual(plans.plan_of(load), plan_told(load))

    def test_nothing_asked_later_changes_it(self):
        told = [plans.plan_of(load) for load in (0, 1, -3, 77, 10 ** 100)]
        as_told = [list(plan) for plan in told]
        for load in loads():
            plans.plan_of(load)
        for plan in told:
            plans.walked(plan, 5)
            plans.cost(plan)
        self.assertEqual(told, as_told)


class WholeProgram(unittest.TestCase):
    def test_plans_cost_as_much_as_neat_layings_have_stones(self):
        for load in loads():
            laying = layings.laid(load)
            plan = plans.plan_of(load)
            self.assertEqual(plans.cost(plan), layings.stones(laying))
            self.assertEqual(plans.walked(plan), layings.load_of(laying))

    def test_no_laying_of_the_load_has_fewer_stones_than_its_plan_costs(self):
        for laying in few_layings():
            self.assertLessEqual(plans.cost(plans.plan_of(layings.load_of(laying))), layings.stones(laying))

    def test_all_that_is_told_of_one_load_agrees(self):
        for load in loads():
            laying = layings.laid(load)
            self.assertEqual(loaded(load).pans(), laying)
            self.assertEqual(loaded(load).weighs(), layings.load_of(laying))
            self.assertEqual(notes.read(notes.shown(laying)), laying)
            self.assertEqual(scale.Scale().lay(load), layings.stones(laying))


class Bounds(unittest.TestCase):
    def test_longer_layings_are_not_refused(self):
        for laying in ([0] * 401, [1] * 401, [1, 0] * 210, mixed(420, 9)):
            self.assertIs(layings.is_laying(laying), True)
            for ask in ASKED_OF_ONE.values():
                ask(laying)

    def test_greater_loads_are_not_refused(self):
        for load in (10 ** 100 + 1, -(10 ** 100) - 1, 10 ** 101, -(10 ** 101)):
            layings.laid(load)
            self.assertEqual(plans.walked(plans.plan_of(load)), load)
            self.assertEqual(plans.walked(["take", "double"], load), -2 * load)
            self.assertEqual(loaded(load).weighs(), load)

    def test_longer_plans_are_not_refused(self):
        for plan in (["put"] * 1001, ["double"] * 1100, ["put", "double"] * 600):
            self.assertEqual(plans.cost(plan), plan.count("put"))
            plans.walked(plan)

    def test_longer_texts_are_not_refused(self):
        for text in ("+" * 401, "-" + "0" * 420):
            self.assertEqual(notes.shown(notes.read(text)), text)

    def test_what_is_told_may_be_longer_and_greater(self):
        self.assertEqual(plans.walked(long_plans()[2], 10 ** 100), 2 ** 999 * 10 ** 100)
        self.assertEqual(len(sums.neat([1] * 400)), 401)
        self.assertEqual(notes.shown(sums.neat([1] * 400)), "+" + "0" * 399 + "-")

    def test_more_deeds_and_a_greater_load_are_not_refused(self):
        one = scale.Scale()
        for _ in range(220):
            one.lay(10 ** 100)
        self.assertEqual(one.weighs(), 220 * 10 ** 100)
        for _ in range(220):
            one.back()
        self.assertEqual(one.weighs(), 0)


class Interface(unittest.TestCase):
    def test_names_and_arguments(self):
        wanted = {
            layings: {"is_laying": ["thing"], "load_of": ["laying"], "stones": ["laying"], "ended": ["laying"],
                      "is_neat": ["laying"], "laid": ["load"]},
            sums: {"neat": ["laying"], "turned": ["laying"], "plus": ["one", "other"],
                   "heavier": ["one", "other"], "parted": ["laying", "place"]},
            plans: {"plan_of": ["load"], "walked": ["plan", "number"], "cost": ["plan"]},
            notes: {"shown": ["laying"], "read": ["text"]},
            scale: {"Scale": []},
            scale.Scale(): {"lay": ["load"], "back": [], "pans": [], "weighs": []},
        }
        for module, names in wanted.items():
            for name, arguments in names.items():
                with self.subTest(name=name):
                    signature = inspect.signature(getattr(module, name))
                    self.assertEqual(list(signature.parameters), arguments)

    def test_arguments_by_name(self):
        self.assertEqual(sums.plus(one=[1], other=[0, 1]), [-1, 0, 1])
        self.assertEqual(sums.heavier(other=[1], one=[0, 1]), 1)
        self.assertEqual(sums.parted(place=1, laying=[1, 0, -1]), ([0, -1], [1]))
        self.assertEqual(layings.laid(load=3), [-1, 0, 1])
        self.assertEqual(plans.plan_of(load=2), ["put", "double"])
        self.assertEqual(plans.walked(number=5, plan=["put", "double"]), 10)
        self.assertEqual(plans.walked(plan=["put", "double"]), 2)
        self.assertEqual(plans.cost(plan=["put", "double"]), 1)
        self.assertEqual(notes.shown(laying=[1, 1]), "++")
        self.assertEqual(notes.read(text="++"), [1, 1])
        self.assertEqual(scale.Scale().lay(load=3), 2)

    def test_the_number_left_out(self):
        self.assertEqual(inspect.signature(plans.walked).parameters["number"].default, 1)


if __name__ == "__main__":
    unittest.main()
