"""A House: sketches with their Boards and claims, and lessons, kept by titles through deeds."""

from pointhouse.deeds import is_deed
from pointhouse.errors import Missing, NoDeed, PointError, Taken, Undone
from pointhouse.keeping import CHANGES, kept_anew
from pointhouse.lessons import judged


class House:
    """Sketches and lessons by titles."""

    def __init__(self):
        # By each title ("sketch", sketch, Board, claims) or ("lesson", sketch, wishes). What stands here is never
        # changed, but another such put in its place: a copy of this dict is all that there is to go back to.
        self._kept = {}
        self._log = []

    def __eq__(self, other):
        return isinstance(other, House) and self._kept == other._kept

    def __len__(self):
        return len(self._kept)

    def do(self, deed):
        """One deed is done; told is what it tells."""
        if is_deed(deed):
            return self._logged(deed)
        self._log.extend(["in none", "out none"])
        raise NoDeed(deed)

    def titles(self, by=None):
        """All titles, rising, or rising by what a function tells of a title and of how many steps its sketch has."""
        rising = sorted(self._kept)
        if by is None:
            return tuple(rising)
        return tuple(sorted(rising, key=lambda title: by(title, self._steps_at(title))))

    def sketch(self, title):
        """The sketch of this title."""
        return self._kept_as("sketch", title)[1]

    def hand(self, title):
        """The hand by which the sketch of this title is drawn."""
        return self._kept_as("sketch", title)[2].hand()

    def things(self, title):
        """What each step of the sketch of this title makes, or None."""
        return self._kept_as("sketch", title)[2].things()

    def claims(self, title):
        """(saying, what is told of it in general) for each claim of the sketch of this title, in order."""
        return self._kept_as("sketch", title)[3]

    def lesson(self, title):
        """The lesson of this title."""
        return self._kept_as("lesson", title)[1:]

    def has(self, title):
        """Whether anything is a title that is there."""
        return isinstance(title, str) and title in self._kept

    def log(self):
        """A row for each deed as it was begun, and one as it was left."""
        return tuple(self._log)

    def _kept_as(self, sort, title):
        """What is kept of this sort at anything as a title; Missing where nothing is."""
        if not self.has(title) or self._kept[title][0] != sort:
            raise Missing(title)
        return self._kept[title]

    def _steps_at(self, title):
        """How many steps the sketch of a title has, a lesson 0."""
        kept = self._kept[title]
        return len(kept[1]) if kept[0] == "sketch" else 0

    def _logged(self, deed):
        """A deed is done, and logged as it is begun and as it is left, refused or not."""
        word = deed[0]
        left = f"out {word}"
        self._log.append(f"in {word}")
        try:
            return self._do_all(deed[1]) if word == "all" else self._do_one(deed)
        finally:
            self._log.append(left)

    def _do_all(self, deeds):
        """Deeds are done one by one; where one is refused, all is as ahead of them."""
        ahead = dict(self._kept)
        told = []
        for number, deed in enumerate(deeds):
            try:
                told.append(self._logged(deed))
            except (PointError, Missing) as refused:
                self._kept = ahead
                raise Undone(number) from refused
        return tuple(told)

    def _do_one(self, deed):
        """A deed that isn't made of others is done."""
        word, title, *parts = deed
        if word in ("sketch", "lesson"):
            return self._keep(word, title, parts)
        if word == "drop":
            if not self.has(title):
                raise Missing(title)
            del self._kept[title]
            return None
        if word == "make":
            return judged(self.lesson(title), parts[0])
        change = CHANGES[word]
        self._kept[title], told = change(self._kept_as("sketch", title), *parts)
        return told

    def _keep(self, sort, title, parts):
        """A sketch or a lesson is kept."""
        if self.has(title):
            raise Taken(title)
        self._kept[title] = kept_anew(*parts) if sort == "sketch" else (sort, *parts)
