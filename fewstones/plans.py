"""Plans: words that come to a load by doubling, putting and taking, and what they cost."""

from fewstones.errors import NoPlan
from fewstones.layings import laid

WORDS = ("double", "put", "take")


def is_plan(thing):
    if not isinstance(thing, list):
        return False
    # The kind first: a thing of another kind may give itself out as like a word.
    return all([isinstance(word, str) and word in WORDS for word in thing])


def check_plan(thing):
    if not is_plan(thing):
        raise NoPlan("a plan is a list of words, each of them double, put or take")


def plan_of(load):
    plan = []
    for thing in reversed(laid(load)):
        plan.append("double")
        if thing == 1:
            plan.append("put")
        elif thing == -1:
            plan.append("take")
    # Ahead of the greatest weight there is nothing to double yet.
    return plan[1:]


def walked(plan, number=1):
    check_plan(plan)
    total = 0
    for word in plan:
        if word == "double":
            total = 2 * total
        elif word == "put":
            total = total + number
        else:
            total = total - number
    return total


def cost(plan):
    check_plan(plan)
    return len([word for word in plan if word != "double"])
