"""Levels: a seeker's askings, its warnings, and the base that its levels rise above."""

ABOVE_TO_WARN = 3
CALM_TO_MOVE = 4
DIRTY_BASE = 100


class Seeker:
    """A seeker by its marks (first, day, night)."""

    def __init__(self, marks):
        self.marks = marks
        self.asked = 0
        self.ground = None
        self.risen = False
        self.row_above = 0
        self.row_calm = 0
        self.warning = False

    def ask(self, level, night):
        """Asks for a level, by night or by day; the events of this asking."""
        first, by_day, by_night = self.marks
        ahead = self.ground
        if ahead is None:
            self.ground = level
        rise = level - self.ground
        events = self.tell_first(rise >= first)
        events.extend(self.tell_warning(rise >= (by_night if night else by_day)))
        self.move_ground(level, rise < first)
        if self.ground >= DIRTY_BASE and (ahead is None or ahead < DIRTY_BASE):
            events.append(("dirt", self.ground))
        self.asked += 1
        return events

    def tell_first(self, risen):
        """The first word, where the level has not risen so far ahead of this asking."""
        events = [("first", self.asked)] if risen and not self.risen else []
        self.risen = risen
        return events

    def tell_warning(self, above):
        """The warning, where this asking is the third in a row above."""
        self.row_above = self.row_above + 1 if above else 0
        if self.warning or self.row_above < ABOVE_TO_WARN:
            return []
        self.warning = True
        return [("warning", (self.asked - 2, self.asked - 1, self.asked))]

    def move_ground(self, level, calm):
        """Moves the base by one towards the level at each fourth calm asking in a row."""
        self.row_calm = self.row_calm + 1 if calm else 0
        if self.row_calm < CALM_TO_MOVE:
            return
        self.row_calm = 0
        if level > self.ground:
            self.ground += 1
        elif level < self.ground:
            self.ground -= 1

    def reset(self):
        """It is warned no more, and three in a row begin anew."""
        self.warning = False
        self.row_above = 0

    def base(self):
        """The base, None ahead of the first asking."""
        return self.ground

    def warned(self):
        """Whether it is warned."""
        return self.warning
