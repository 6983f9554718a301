import unittest

from fewstones.errors import NoDeed, NoLoad
from fewstones.scale import Scale
from tests.samples import drawn, loads, moved_told, neat_laying_told, no_whole_numbers

GREAT = 10 ** 100


class Told:
    """The scale as [11] tells it: every load laid on and not taken back, and nothing else."""

    def __init__(self):
        self.laid_on = []

    def weighs(self):
        return sum(self.laid_on)

    def pans(self):
        return neat_laying_told(self.weighs())

    def lay(self, load):
        before = self.pans()
        self.laid_on.append(load)
        return moved_told(before, self.pans())

    def back(self):
        before = self.pans()
        self.laid_on.pop()
        return moved_told(before, self.pans())


def deeds(count, seed):
    """A load to lay on, or None to take back; a taking back only where one is left."""
    depth = 0
    found = []
    for number in drawn(count, seed):
        if depth > 0 and number % 3 == 0:
            found.append(None)
            depth -= 1
            continue
        size = (1, 8, 100, 2 ** 20, 2 ** 40, GREAT // 500)[number // 3 % 6]
        load = number ** 9 % (2 * size + 1) - size
        found.append(load)
        depth += 1
    return found


def runs():
    return [
        [0], [0, 0, 0, None, None, None], [1, 1, 1, 1, 1, 1, 1, 1], [-1] * 9 + [None] * 9,
        [3, -3, None, None], [3, -3, 3, -3, 0, None, 5, None, None, None, None, None],
        [1, -2, 4, -8, 16, -32], [2 ** exponent for exponent in range(64)],
        [5, None, 5, None, -5, None], [GREAT, -GREAT, -GREAT, GREAT], [GREAT, None, -GREAT, None],
        [GREAT // 3, GREAT // 3, GREAT // 3, 1, None, None, None, None], loads()[:200], loads()[-150:-50],
        [1] * 200 + [None] * 200, [7, None] * 200,
    ] + [deeds(200, seed) for seed in range(8)]


def done(scale, deed):
    return scale.back() if deed is None else scale.lay(deed)


class Empty(unittest.TestCase):
    def test_at_first(self):
        self.assertEqual(Scale().weighs(), 0)
        self.assertEqual(Scale().pans(), [])

    def test_nothing_to_take_back(self):
        scale = Scale()
        for _ in range(3):
            with self.assertRaises(NoDeed):
                scale.back()
            self.assertEqual((scale.weighs(), scale.pans()), (0, []))
        self.assertEqual(scale.lay(3), 2)


class Lay(unittest.TestCase):
    def test_examples(self):
        scale = Scale()
        self.assertEqual(scale.lay(3), 2)
        self.assertEqual((scale.weighs(), scale.pans()), (3, [-1, 0, 1]))
        self.assertEqual(scale.lay(1), 1)
        self.assertEqual((scale.weighs(), scale.pans()), (4, [0, 0, 1]))
        self.assertEqual(scale.lay(-7), 2)
        self.assertEqual((scale.weighs(), scale.pans()), (-3, [1, 0, -1]))

    def test_one_stone_that_goes_to_the_other_pan_is_moved_once(self):
        scale = Scale()
        self.assertEqual(scale.lay(1), 1)
        self.assertEqual(scale.lay(-2), 1)
        self.assertEqual(scale.pans(), [-1])
        self.assertEqual(scale.lay(2), 1)
        self.assertEqual(scale.lay(2), 2)
        self.assertEqual(scale.pans(), [-1, 0, 1])
        self.assertEqual(scale.lay(-6), 2)
        self.assertEqual(scale.pans(), [1, 0, -1])

    def test_a_load_of_nothing_moves_no_stone(self):
        for load in (0, 1, -3, 77, GREAT, -GREAT):
            scale = Scale()
            scale.lay(load)
            self.assertEqual(scale.lay(0), 0)
            self.assertEqual((scale.weighs(), scale.pans()), (load, neat_laying_told(load)))

    def test_loads_that_cancel(self):
        for load in loads():
            scale = Scale()
            there = scale.lay(load)
            self.assertEqual(there, len([thing for thing in neat_laying_told(load) if thing != 0]))
            self.assertEqual(scale.lay(-load), there)
            self.assertEqual((scale.weighs(), scale.pans()), (0, []))

    def test_places_beyond_the_end(self):
        scale = Scale()
        scale.lay(1)
        self.assertEqual(scale.lay(2 ** 300), 1)
        self.assertEqual(scale.lay(-(2 ** 300)), 1)
        self.assertEqual(scale.lay(2 ** 300 - 1), 2)
        self.assertEqual(scale.lay(-1), 1)
        self.assertEqual(scale.pans(), [-1] + [0] * 299 + [1])

    def test_every_two_small_loads(self):
        for one in range(-40, 41):
            for other in range(-40, 41):
                scale = Scale()
                scale.lay(one)
                told = scale.lay(other)
                self.assertEqual(told, moved_told(neat_laying_told(one), neat_laying_told(one + other)))
                self.assertEqual(scale.pans(), neat_laying_told(one + other))
                self.assertEqual(scale.weighs(), one + other)


class Back(unittest.TestCase):
    def test_the_last_one_first(self):
        scale = Scale()
        for load in (3, 1, -7):
            scale.lay(load)
        self.assertEqual(scale.back(), 2)
        self.assertEqual((scale.weighs(), scale.pans()), (4, [0, 0, 1]))
        self.assertEqual(scale.back(), 1)
        self.assertEqual((scale.weighs(), scale.pans()), (3, [-1, 0, 1]))
        self.assertEqual(scale.back(), 2)
        self.assertEqual((scale.weighs(), scale.pans()), (0, []))
        with self.assertRaises(NoDeed):
            scale.back()

    def test_a_load_of_nothing_is_taken_back_like_any_other(self):
        scale = Scale()
        for load in (0, 5, 0):
            scale.lay(load)
        self.assertEqual((scale.back(), scale.weighs()), (0, 5))
        self.assertEqual((scale.back(), scale.weighs()), (2, 0))
        self.assertEqual((scale.back(), scale.weighs()), (0, 0))
        with self.assertRaises(NoDeed):
            scale.back()

    def test_what_was_taken_back_is_not_taken_back_again(self):
        scale = Scale()
        scale.lay(5)
        scale.lay(9)
        scale.back()
        scale.lay(100)
        self.assertEqual(scale.weighs(), 105)
        scale.back()
        self.assertEqual(scale.weighs(), 5)
        scale.back()
        self.assertEqual(scale.weighs(), 0)
        with self.assertRaises(NoDeed):
            scale.back()

    def test_moves_as_many_stones_as_laying_it_on(self):
        for run in runs():
            scale = Scale()
            moves = [scale.lay(deed) for deed in run if deed is not None]
            self.assertEqual([scale.back() for _ in moves], moves[::-1])
            self.assertEqual((scale.weighs(), scale.pans()), (0, []))

    def test_to_the_first_and_no_further(self):
        for run in runs():
            scale = Scale()
            states = []
            for deed in run:
                if deed is not None:
                    states.append((scale.weighs(), scale.pans()))
                    scale.lay(deed)
            for state in reversed(states):
                scale.back()
                self.assertEqual((scale.weighs(), scale.pans()), state)
            for _ in range(2):
                with self.assertRaises(NoDeed):
                    scale.back()
                self.assertEqual((scale.weighs(), scale.pans()), (0, []))
            self.assertEqual(scale.lay(3), 2)
            self.assertEqual(scale.back(), 2)


class Runs(unittest.TestCase):
    def test_held_against_the_document(self):
        deep = [[3] * 399 + [None], [-7] * 300 + [None] * 100, list(range(400))]
        for run in runs() + deep + [deeds(400, seed) for seed in (31, 32, 33)]:
            scale, told = Scale(), Told()
            for deed in run:
                self.assertEqual(done(scale, deed), done(told, deed))
                self.assertEqual(scale.weighs(), told.weighs())
                self.assertEqual(scale.pans(), told.pans())

    def test_never_asked_for_its_laying(self):
        for run in runs():
            asked, unasked = Scale(), Scale()
            moves = []
            for deed in run:
                moves.append(done(asked, deed))
                asked.pans()
                asked.weighs()
                asked.pans()
            self.assertEqual([done(unasked, deed) for deed in run], moves)
            self.assertEqual(unasked.pans(), asked.pans())
            self.assertEqual(unasked.weighs(), asked.weighs())

    def test_two_scales_go_each_by_its_own_deeds(self):
        one_run, other_run = deeds(200, 21), deeds(200, 22)
        one, other, one_told, other_told = Scale(), Scale(), Told(), Told()
        for mine, yours in zip(one_run, other_run):
            self.assertEqual(done(one, mine), done(one_told, mine))
            self.assertEqual(done(other, yours), done(other_told, yours))
            self.assertEqual((one.weighs(), one.pans()), (one_told.weighs(), one_told.pans()))
            self.assertEqual((other.weighs(), other.pans()), (other_told.weighs(), other_told.pans()))

    def test_a_new_one_is_empty_whatever_others_hold(self):
        full = Scale()
        full.lay(77)
        new = Scale()
        self.assertEqual((new.weighs(), new.pans()), (0, []))
        with self.assertRaises(NoDeed):
            new.back()
        self.assertEqual(full.weighs(), 77)

    def test_kinds(self):
        for run in runs():
            scale = Scale()
            for deed in run:
                self.assertIs(type(done(scale, deed)), int)
                self.assertIs(type(scale.weighs()), int)
                self.assertIs(type(scale.pans()), list)
                self.assertTrue(all(type(thing) is int for thing in scale.pans()))
        self.assertIs(type(Scale().weighs()), int)
        self.assertIs(type(Scale().pans()), list)


class Refused(unittest.TestCase):
    def test_no_whole_number(self):
        for ahead in ([], [0], [5], [5, -12, GREAT], [3, -3]):
            for place, thing in enumerate(no_whole_numbers()):
                scale = Scale()
                for load in ahead:
                    scale.lay(load)
                with self.subTest(ahead=ahead, place=place, kind=type(thing).__name__):
                    with self.assertRaises(NoLoad):
                        scale.lay(thing)
                    self.assertEqual(scale.weighs(), sum(ahead))
                    self.assertEqual(scale.pans(), neat_laying_told(sum(ahead)))

    def test_changes_nothing_for_what_comes_behind(self):
        for run in runs():
            vexed, calm = Scale(), Scale()
            for place, deed in enumerate(run):
                wrong = no_whole_numbers()
                with self.assertRaises(NoLoad):
                    vexed.lay(wrong[place % len(wrong)])
                self.assertEqual(done(vexed, deed), done(calm, deed))
                self.assertEqual((vexed.weighs(), vexed.pans()), (calm.weighs(), calm.pans()))

    def test_changes_nothing_for_taking_back(self):
        scale = Scale()
        scale.lay(5)
        scale.lay(9)
        for thing in no_whole_numbers():
            with self.assertRaises(NoLoad):
                scale.lay(thing)
        self.assertEqual((scale.back(), scale.weighs()), (moved_told([0, -1, 0, 0, 1], [1, 0, 1]), 5))
        with self.assertRaises(NoLoad):
            scale.lay(True)
        self.assertEqual((scale.back(), scale.weighs()), (2, 0))
        with self.assertRaises(NoLoad):
            scale.lay(None)
        with self.assertRaises(NoDeed):
            scale.back()

    def test_no_deed_changes_nothing(self):
        scale = Scale()
        for load in (5, -5, GREAT):
            with self.assertRaises(NoDeed):
                scale.back()
            scale.lay(load)
            self.assertEqual(scale.pans(), neat_laying_told(load))
            scale.back()
            self.assertEqual((scale.weighs(), scale.pans()), (0, []))


class Pans(unittest.TestCase):
    def test_what_was_told_stays_behind_later_deeds(self):
        for run in runs():
            scale = Scale()
            told = [scale.pans()]
            as_told = [list(told[0])]
            for deed in run:
                done(scale, deed)
                told.append(scale.pans())
                as_told.append(list(told[-1]))
            self.assertEqual(told, as_told)

    def test_a_new_list_each_time(self):
        scale = Scale()
        for load in (0, 3, -3, GREAT):
            first = scale.pans()
            self.assertIsNot(scale.pans(), first)
            scale.lay(load)
            self.assertIsNot(scale.pans(), first)
            scale.back()
            self.assertIsNot(scale.pans(), first)
            scale.lay(load)

    def test_what_its_asker_changes_changes_nothing(self):
        for run in runs():
            scale, told = Scale(), Told()
            for deed in run:
                pans = scale.pans()
                pans.append(1)
                pans[0] = 7
                scale.pans().clear()
                self.assertEqual(done(scale, deed), done(told, deed))
                pans[:] = [1, 1, 1]
                self.assertEqual((scale.weighs(), scale.pans()), (told.weighs(), told.pans()))


if __name__ == "__main__":
    unittest.main()
