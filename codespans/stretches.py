"""Stretches of a path: how often a tracer reports each line in them, without their single steps."""

from codespans.spans import line_of

# The step of a stretch that has none; it is less than every step.
NO_STEP = -1


class Stretch:
    """What a stretch of a path tells of its events, whatever runs before and behind it.

    Only its first position is reported or not depending on what runs before it.
    So counts leaves that one out: how often each line is reported, the first position aside.
    """

    def __init__(self):
        self.first_step = NO_STEP
        self.last_step = NO_STEP
        self.first_line = None
        self.last_line = None
        # Whether the first position is that of the first step.
        self.is_direct = False
        # Whether the path goes back to the first position from a step within the stretch.
        self.is_behind_jump = False
        self.counts = {}

    def goes_back_behind(self, step):
        """Tell whether the path goes back to the first position if a step runs before the stretch."""
        return self.is_behind_jump or (self.is_direct and self.first_step <= step)

    def is_reported_behind(self, stretch):
        """Tell whether the first position is reported directly behind another stretch."""
        if self.first_line is None:
            return False
        return self.first_line != stretch.last_line or self.goes_back_behind(stretch.last_step)

    def count_line(self, line, many):
        """Count so many more reports of a line."""
        self.counts[line] = self.counts.get(line, 0) + many

    def run_on(self, other):
        """Let another stretch run directly behind this one."""
        if other.first_step == NO_STEP:
            return
        if self.first_line is None:
            self.first_line = other.first_line
            self.is_behind_jump = other.goes_back_behind(self.last_step)
            self.is_direct = other.is_direct and self.first_step == NO_STEP
        elif other.is_reported_behind(self):
            self.count_line(other.first_line, 1)
        if other.first_line is not None:
            self.last_line = other.last_line
        if self.first_step == NO_STEP:
            self.first_step = other.first_step
        self.last_step = other.last_step
        for line, many in list(other.counts.items()):
            self.count_line(line, many)

    def repeat(self, times):
        """Let this stretch run so many times instead of once; times is not 0."""
        for line in list(self.counts):
            self.counts[line] = times * self.counts[line]
        # Every round but the first one runs behind a round, so that all of these begin alike.
        if self.is_reported_behind(self):
            self.count_line(self.first_line, times - 1)


def stretch_of_step(step, span):
    """Return the stretch of a single step."""
    stretch = Stretch()
    stretch.first_step = step
    stretch.last_step = step
    stretch.first_line = line_of(span)
    stretch.last_line = line_of(span)
    stretch.is_direct = span is not None
    return stretch
