"""Rows of tables with repetitions, which are never written out."""

from codespans.checks import MOST_STEPS, check_any_line, check_step, check_times
from codespans.errors import TooLong
from codespans.searching import count_below
from codespans.spans import line_of


class Part:
    """A table with its repetitions, from a step of a rope on."""

    def __init__(self, table, times, start):
        self._table = table
        self._runs = table.runs()
        self._run_starts = [run_start for run_start, _, _ in self._runs]
        self.start = start
        self.end = start + times * table.step_count

    def place_of(self, step):
        """Return the round of a step of the rope, and the step in the table."""
        return divmod(step - self.start, self._table.step_count)

    def span_at(self, step):
        """Return the span of a step of the rope."""
        _, own_step = self.place_of(step)
        return self._table.span_at(own_step)

    def near_run(self, step):
        """Return the run of a step of the rope as far as it lies in one round.

        If the table has one run only, it lies in all rounds.
        """
        _, own_step = self.place_of(step)
        run_start, run_end, span = self._runs[count_below(self._run_starts, own_step + 1) - 1]
        if len(self._runs) == 1:
            return self.start, self.end, span
        return step - own_step + run_start, step - own_step + run_end, span


class Rope:
    """A row of tables with repetitions, and what it tells of its steps."""

    def __init__(self, parts):
        for _, times in parts:
            check_times(times)
        self._parts = []
        self._counts = {}
        self.step_count = 0
        for table, times in parts:
            part = Part(table, times, self.step_count)
            self._parts.append(part)
            self._count_lines(table, times)
            self.step_count = part.end
        self._starts = [part.start for part in self._parts]

    def _count_lines(self, table, times):
        for span in table.spans():
            line = line_of(span)
            self._counts[line] = self._counts.get(line, 0) + times

    def _index_of_part(self, step):
        """Return the index of the part in which a step lies."""
        # A part without steps starts where the next one does, so it is never the last one found.
        return count_below(self._starts, step + 1) - 1

    def span_at(self, step):
        """Return the span of a step."""
        check_step(step, 0, self.step_count - 1)
        return self._parts[self._index_of_part(step)].span_at(step)

    def place_of(self, step):
        """Return (part, round, step): where a step lies in the parts."""
        check_step(step, 0, self.step_count - 1)
        index = self._index_of_part(step)
        number, own_step = self._parts[index].place_of(step)
        return index, number, own_step

    def count_of(self, line):
        """Return the number of steps with this line, without a position if it is None."""
        if line is not None:
            check_any_line(line)
        return self._counts.get(line, 0)

    def run_at(self, step):
        """Return (start, end, span) of the maximal range of equal spans around a step."""
        check_step(step, 0, self.step_count - 1)
        start, end, span = self._near_run(step)
        while start > 0 and self.span_at(start - 1) == span:
            start, _, _ = self._near_run(start - 1)
        while end < self.step_count and self.span_at(end) == span:
            _, end, _ = self._near_run(end)
        return start, end, span

    def _near_run(self, step):
        return self._parts[self._index_of_part(step)].near_run(step)

    def spans(self, start, end):
        """Return the spans of the steps from start to end - 1."""
        check_step(start, 0, self.step_count)
        check_step(end, start, self.step_count)
        if end - start > MOST_STEPS:
            raise TooLong()
        return [self.span_at(step) for step in range(start, end)]
