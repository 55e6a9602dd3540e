"""Sheets: the bars of a lead, a line of text for each of them."""

from barclips.bars import walk


def told_closers(closed_by):
    """Return the names of the tracks that close a bar, or that it is open."""
    if len(closed_by) == 0:
        return "open"
    return ",".join([name for name, _ in closed_by])


def sheet(stage, lead, setting, since, count):
    """Return the list of the lines of so many bars in a row: number, tick, and by whom it is closed."""
    lines = []
    for number, tick, closed_by in walk(stage, lead, setting, since, count):
        lines.append(f"{number:>6} {tick:>8} {told_closers(closed_by)}")
    return lines
