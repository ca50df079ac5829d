"""An index that looks up single steps of a table without reading all of its entries."""

from codespans.checks import check_count_from, check_step
from codespans.reading import read_entry
from codespans.searching import count_below
from codespans.spans import line_behind


class Index:
    """The checkpoints of a table, one for every few entries, and the lookups that begin at them."""

    def __init__(self, table, every):
        check_count_from(every, 1)
        self._data = table.data
        self._step_count = table.step_count
        self._checkpoints = _checkpoints_of(table, every)
        self._steps = [step for step, _, _ in self._checkpoints]
        self.entries_read = 0

    def checkpoints(self):
        """Return (step, at, line) for each entry that has a checkpoint; line is the one before it."""
        return list(self._checkpoints)

    def span_at(self, step):
        """Return the span of a step."""
        check_step(step, 0, self._step_count - 1)
        behind, at, line = self._checkpoints[count_below(self._steps, step + 1) - 1]
        span = None
        many = 0
        while behind <= step:
            steps, _, span, at = read_entry(self._data, at, line)
            line = line_behind(span, line)
            behind += steps
            many += 1
        self.entries_read = many
        return span


def _checkpoints_of(table, every):
    checkpoints = []
    line = table.first_line
    for number, (at, step, _, _, span) in enumerate(table.entries()):
        if number % every == 0:
            checkpoints.append((step, at, line))
        line = line_behind(span, line)
    return checkpoints
