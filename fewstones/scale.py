"""The scale: loads laid on it and taken back, the last one first, and the stones moved for that."""

from fewstones.errors import NoDeed
from fewstones.layings import check_load, laid


def thing_at(laying, place):
    return laying[place] if place < len(laying) else 0


def moved(before, behind):
    length = max(len(before), len(behind))
    return len([place for place in range(length) if thing_at(before, place) != thing_at(behind, place)])


class Scale:
    def __init__(self):
        # The whole load behind each deed that was not taken back; the first is that of the empty scale.
        self.loads = [0]

    def lay(self, load):
        # Ahead of the sum: what is no whole number may be added all the same.
        check_load(load)
        before = self.pans()
        self.loads.append(self.weighs() + load)
        return moved(before, self.pans())

    def back(self):
        if len(self.loads) == 1:
            raise NoDeed("no load is left that could be taken back")
        before = self.pans()
        self.loads.pop()
        return moved(before, self.pans())

    def pans(self):
        return laid(self.weighs())

    def weighs(self):
        return self.loads[-1]
