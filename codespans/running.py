"""What a debugger and a coverage report tell of the steps that a program ran."""

from codespans.checks import check_any_line, check_step
from codespans.errors import BadStep
from codespans.searching import first_from
from codespans.spans import line_of


def line_events(table, path):
    """Return (index, line) for each step of a path at which a tracer reports a line."""
    _check_path(table, path)
    spans = table.spans()
    events = []
    last_line = None
    step_before = -1
    for at, step in enumerate(path):
        line = line_of(spans[step])
        if line is not None:
            if line != last_line or step <= step_before:
                events.append((at, line))
            last_line = line
        step_before = step
    return events


def coverage(table, path):
    """Return the lines of the steps of a path, ascending, each once."""
    _check_path(table, path)
    spans = table.spans()
    return sorted({spans[step][0] for step in path if spans[step] is not None})


def missing(table, path):
    """Return the lines of a table that no step of a path has, ascending."""
    covered = set(coverage(table, path))
    return [line for line in table.lines() if line not in covered]


def hits(table, path):
    """Return (line, count) for each line of a table: how often a tracer reports it."""
    counts = {line: 0 for line in table.lines()}
    for _, line in line_events(table, path):
        counts[line] += 1
    return list(counts.items())


def breaks(table, lines):
    """Return the lines of a table at which breakpoints at these lines stop, ascending, each once."""
    for line in lines:
        check_any_line(line)
    own_lines = table.lines()
    found = [first_from(own_lines, line) for line in lines]
    return sorted({line for line in found if line is not None})


def stopped(table, path, lines):
    """Return the indexes of a path at which breakpoints at these lines stop."""
    events = line_events(table, path)
    stop_lines = set(breaks(table, lines))
    return [at for at, line in events if line in stop_lines]


def _check_path(table, path):
    """Raise BadStep if a thing is not a list or tuple of steps of a table."""
    if not isinstance(path, (list, tuple)):
        raise BadStep(path)
    for step in path:
        check_step(step, 0, table.step_count - 1)
