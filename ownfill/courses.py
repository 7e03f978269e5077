"""Courses: what a program does with values in the place of texts. There are finitely many, so a run comes back or ends.

A program is laid out as points, each with the numbers of the points that may follow: ("ask", number of the condition,
point if it holds, point if it does not, whether it is a loop's), ("fill", template, point), ("fail", word), ("end",).
A skip has no point. A place of a course is a pair of a point and a value.
"""

from ownfill.chains import fills_turns
from ownfill.programs import program_fills
from ownfill.values import Values


def new_point(points, point):
    """Adds a point; returns its number."""
    points.append(point)
    return len(points) - 1


def laid_out(points, asked, program, following):
    """Adds the points of a program and the conditions that it asks; returns the number of its first point."""
    kind = program[0]
    if kind in ("fill", "fail"):
        return new_point(points, (kind, program[1], following))
    if kind == "block":
        first = following
        for part in reversed(program[1:]):
            first = laid_out(points, asked, part, first)
        return first
    if kind == "skip":
        return following
    number = len(asked)
    asked.append(program[1])
    at = new_point(points, None)
    if kind == "if":
        chosen = [laid_out(points, asked, part, following) for part in program[2:]]
        points[at] = ("ask", number, chosen[0], chosen[1], False)
    else:
        points[at] = ("ask", number, laid_out(points, asked, program[2], at), following, True)
    return at


class Course:
    """A program without names, laid out, with the values for its conditions, for its turns and for other conditions."""

    def __init__(self, letters, program, others, limit):
        asked = []
        self.points = [("end",)]
        self.first = laid_out(self.points, asked, program, 0)
        self.many_asked = len(asked)
        self.worths = Values(letters, [*asked, *others], fills_turns(letters, program_fills(program)), limit=limit)
        self.fillings = {}

    def point_at(self, place):
        """The point of a place."""
        return self.points[place[0]]

    def truth_at(self, number, place):
        """Whether the condition with a number holds at a place."""
        return self.worths.truths[number][place[1]]

    def filled_at(self, fill, value):
        """The value of a filled template."""
        key = (fill, value)
        if key not in self.fillings:
            self.fillings[key] = self.worths.filled(fill, value)
        return self.fillings[key]

    def place_behind(self, place):
        """The place that follows, or None behind the last one."""
        point = self.point_at(place)
        value = place[1]
        if point[0] == "fill":
            return (point[2], self.filled_at(point[1], value))
        if point[0] == "ask":
            return (point[2] if self.truth_at(point[1], place) else point[3], value)
        return None

    def path_from(self, value, known):
        """The list of the places from the beginning with a value on, as far as they are new, and the one behind them.

        That one is known, or one of the path, to which it comes back, or None behind the end.
        """
        path = []
        seen = {}
        now = (self.first, value)
        while now is not None and now not in known and now not in seen:
            seen[now] = True
            path.append(now)
            now = self.place_behind(now)
        return path, now
