"""What is known of a sketch by rules: sayings, each with the row by which it is told."""

from pointhouse.ruleforms import FORMS, matched, told_by, turned_ways
from pointhouse.steps import sorts_by_name


class Knowledge:
    """Sayings known of a sketch, by the steps of these numbers, in the order in which they were found; each by its
    rule, the numbers of steps and the sayings, known ahead of it, that the rule wants."""

    def __init__(self, sketch, numbers):
        self.steps = [(number, sketch[number]) for number in numbers]
        self.sorts = sorts_by_name(sketch)
        self.ways = {}
        self.places = {}

    def learn(self, saying, way):
        """This saying is known, by the first way in which it is told."""
        if saying not in self.ways:
            self.ways[saying] = way
            for place in [(saying[0],), *[(saying[0], at, name) for at, name in enumerate(saying[1:])]]:
                self.places.setdefault(place, []).append(saying)

    def fitting(self, pattern, found):
        """Known sayings among which are all that a pattern may be, with the names found for letters so far."""
        word, *letters = pattern.split(" ")
        places = [(word,), *[(word, at, found[letter]) for at, letter in enumerate(letters) if letter in found]]
        return min([self.places.get(place, []) for place in places], key=len)

    def ways_by(self, form, found):
        """All ways by which a form of a rule goes on, with these names for some letters: (names, steps, sayings)."""
        rows = [(found, (), ())]
        for pattern in form[0]:
            rows = [
                (both, (*steps, number), ())
                for names, steps, _ in rows
                for number, step in self.steps
                if (both := matched(self.sorts, names, pattern, step)) is not None
            ]
        for pattern in form[1]:
            rows = [
                (more, steps, (*ahead, saying))
                for names, steps, ahead in rows
                for saying in self.fitting(pattern, names)
                if (more := matched(self.sorts, names, pattern, saying)) is not None
            ]
        return rows

    def ways_to(self, saying):
        """All ways, (rule, steps, sayings), by which one row more tells this saying."""
        ways = [("turned", (), (other,)) for other in turned_ways(saying) if other in self.ways]
        for rule in FORMS:
            for form in FORMS[rule]:
                for pattern in form[2]:
                    found = matched(self.sorts, {}, pattern, saying)
                    rows = [] if found is None else self.ways_by(form, found)
                    ways.extend([(rule, steps, ahead) for _, steps, ahead in rows])
        return ways

    def told_further(self, rule):
        """All that a rule tells of what is known: (saying, way)."""
        return [
            (told_by(names, pattern), (rule, steps, ahead))
            for form in FORMS[rule]
            for names, steps, ahead in self.ways_by(form, {})
            for pattern in form[2]
        ]

    def paper_of(self, saying):
        """The paper of a known saying: its own row, and ahead of it the rows on which it goes back."""
        wanted = {saying: True}
        for one in reversed(list(self.ways)):
            if one in wanted:
                for other in self.ways[one][2]:
                    wanted[other] = True
        rows = [one for one in self.ways if one in wanted]
        numbers = {one: number for number, one in enumerate(rows)}
        paper = []
        for one in rows:
            rule, steps, ahead = self.ways[one]
            paper.append((one, rule, (*steps, *[numbers[other] for other in ahead])))
        return tuple(paper)
