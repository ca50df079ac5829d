"""Programs with loops: the steps that they run, and the events of these steps.

A program is a list of items: steps, and tuples of a number of rounds and the program of a loop.
"""

from codespans.checks import MOST_STEPS, check_step, check_times
from codespans.errors import TooLong
from codespans.stretches import Stretch, stretch_of_step


def path_of(table, program):
    """Return the steps that a program runs, in order."""
    _check_items(table, program)
    if _length_of(program) > MOST_STEPS:
        raise TooLong()
    return _steps_of(program)


def loop_hits(table, program):
    """Return (line, count) for each line of a table: how often a tracer reports it."""
    counts = _counts_of(table, program)
    return [(line, counts.get(line, 0)) for line in table.lines()]


def event_count(table, program):
    """Return how many events a tracer reports for a program."""
    counts = _counts_of(table, program)
    return sum(counts.values())


def _check_items(table, program):
    """Raise BadStep or BadCount for the first item, in the order of the text, that is invalid."""
    for item in program:
        if isinstance(item, tuple):
            times, inner = item
            check_times(times)
            _check_items(table, inner)
        else:
            check_step(item, 0, table.step_count - 1)


def _length_of(program):
    """Return the number of steps that a program runs."""
    length = 0
    for item in program:
        if isinstance(item, tuple):
            times, inner = item
            length += times * _length_of(inner)
        else:
            length += 1
    return length


def _steps_of(program):
    """Return the steps that a program runs, which are few enough."""
    steps = []
    for item in program:
        if not isinstance(item, tuple):
            steps.append(item)
        # What a loop that never runs contains may be too long to be written out.
        elif item[0] > 0:
            times, inner = item
            steps.extend(_steps_of(inner) * times)
    return steps


def _counts_of(table, program):
    """Return how often a tracer reports each line, for the lines that are reported."""
    _check_items(table, program)
    stretch = _stretch_of(table.spans(), program)
    # Nothing runs before the whole path, so its first position is always reported.
    if stretch.first_line is not None:
        stretch.count_line(stretch.first_line, 1)
    return stretch.counts


def _stretch_of(spans, program):
    """Return the stretch of all steps that a program runs."""
    stretch = Stretch()
    for item in program:
        if not isinstance(item, tuple):
            stretch.run_on(stretch_of_step(item, spans[item]))
        elif item[0] > 0:
            times, inner = item
            rounds = _stretch_of(spans, inner)
            rounds.repeat(times)
            stretch.run_on(rounds)
    return stretch
