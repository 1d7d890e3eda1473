"""Rules: how long readings are kept whole, and then how coarsely."""

from thinbook.errors import NoRule
from thinbook.whole import is_whole

MOST_STEPS = 5


def is_step(thing):
    return isinstance(thing, tuple) and len(thing) == 2 and is_whole(thing[0]) and is_whole(thing[1])


def check_one_step(step):
    if not is_step(step):
        raise NoRule("a step is a tuple of two whole numbers")
    if step[0] < 0:
        raise NoRule("an age is 0 or more")
    if step[1] < 1:
        raise NoRule("a width is 1 or more")


def check_next_step(step, behind):
    if behind[0] < step[0]:
        raise NoRule("an age is no less than the one ahead of it")
    if behind[1] % step[1] != 0:
        raise NoRule("a width divides the next one")


def check_steps(steps):
    if len(steps) < 1 or len(steps) > MOST_STEPS:
        raise NoRule("a rule has one to five steps")
    for step in steps:
        check_one_step(step)
    for step, behind in zip(steps, steps[1:]):
        check_next_step(step, behind)


def check_gone(gone, last_age):
    if gone is None:
        return
    if not is_whole(gone) or gone < last_age:
        raise NoRule("gone is None, or a whole number no less than the last age")


def most_cells(step, behind):
    # The edge of the step behind may lie up to its width less 1 below its age,
    # and so far do the cells of this step reach.
    return (behind[0] - step[0] + behind[1] - 1) // step[1]


class Rule:
    """Steps (age, width) and an age gone; what doesn't fit is refused with NoRule."""

    def __init__(self, steps, gone=None):
        kept = list(steps)
        check_steps(kept)
        check_gone(gone, kept[-1][0])
        self.kept_steps = kept
        self.gone_age = gone

    def steps(self):
        return list(self.kept_steps)

    def gone(self):
        return self.gone_age

    def room(self):
        """The most cells that are not young and have a time on one day, or None without gone."""
        if self.gone_age is None:
            return None
        # Gone ends the last step's cells as a next step of the same width would.
        ends = self.kept_steps[1:] + [(self.gone_age, self.kept_steps[-1][1])]
        return sum([most_cells(step, behind) for step, behind in zip(self.kept_steps, ends)])


def widths_of(rule):
    return [width for age, width in rule.steps()]


def same_rules(one, other):
    """Whether two rules tell the same steps and gone."""
    return one.steps() == other.steps() and one.gone() == other.gone()
