"""The rules by which papers go on: which steps and sayings each wants, and which sayings it tells then."""

from itertools import permutations

# Each form of a rule: the steps that it wants, the sayings that it wants, the sayings that it tells. One letter is one
# name in all of a form; L is a line's and K a circle's. `turned` is told by turned_ways.
FORMS = {
    "made": (
        (("line N P Q",), (), ("at P N", "at Q N", "unlike P Q")),
        (("circle N O P",), (), ("at P N", "unlike O P")),
        (("on N L",), (), ("at N L",)),
        (("round N K",), (), ("at N K",)),
        (("foot N P L",), (), ("at N L",)),
        (("along N P L",), (), ("at P N",)),
        (("upright N P L",), (), ("at P N",)),
        (("meet N L M",), (), ("at N L", "at N M")),
        (("other N L K P",), (), ("at N L", "at N K")),
        (("middle N P Q",), (), ("row P N Q", "alike P N N Q")),
        (("turn N P O 1",), (), ("alike O P O N", "upright O P O N")),
        (("turn N P O 2",), (), ("alike O P O N", "row P O N")),
        (("turn N P O 3",), (), ("alike O P O N", "upright O P O N")),
    ),
    "round": ((("circle N O P",), ("at X N",), ("alike O X O P",)),),
    "along": ((("along N P L",), ("at X N", "at Y N", "at U L", "at V L"), ("along X Y U V",)),),
    "upright": (
        (("upright N P L",), ("at X N", "at Y N", "at U L", "at V L"), ("upright X Y U V",)),
        (("foot N P L",), ("at U L", "at V L"), ("upright P N U V",)),
        (("mirror N P L",), ("at U L", "at V L"), ("upright P N U V",)),
    ),
    "mirror": ((("mirror N P L",), ("at U L",), ("alike U P U N",)),),
    "turned": (),
    "rowed": (((), ("at X L", "at Y L", "at Z L"), ("row X Y Z",)),),
    "ringed": (((), ("at X K", "at Y K", "at Z K", "at U K"), ("ring X Y Z U",)),),
    "linked": (((), ("alike P Q R S", "alike R S T U"), ("alike P Q T U",)),),
    "passed": (((), ("along P Q R S", "along R S T U", "unlike R S"), ("along P Q T U",)),),
    "squared": (((), ("upright P Q R S", "upright R S T U", "unlike R S"), ("along P Q T U",)),),
    "sided": (((), ("upright P Q R S", "along R S T U", "unlike R S"), ("upright P Q T U",)),),
    "bent": (((), ("row P Q R",), ("along P Q P R",)),),
    "straight": (((), ("along P Q P R",), ("row P Q R",)),),
    "halved": ((("middle X P Q", "middle Y P R"), (), ("along X Y Q R",)),),
    "between": (((), ("alike P A P B", "alike Q A Q B"), ("upright P Q A B",)),),
    "kept": (((), ("upright P Q A B", "alike P A P B"), ("alike Q A Q B",)),),
    "legs": (((), ("alike P A P B",), ("angle P A B A B P",)),),
    "sides": (((), ("along A B D E", "along B C E F"), ("angle A B C D E F",)),),
    "seen": (((), ("ring P Q R S",), ("angle P R Q P S Q",)),),
    "rounded": (((), ("angle P R Q P S Q",), ("ring P Q R S",)),),
    "carried": (
        ((), ("angle A B C D E F", "angle D E F G H I", "unlike D E", "unlike E F"), ("angle A B C G H I",)),
    ),
    "corners": (((), ("upright C A C B", "upright D A D B"), ("ring A B C D",)),),
    "thales": ((("middle M A B",), ("alike M A M C",), ("upright C A C B",)),),
}

SORTS = {"L": "line", "K": "circle"}


def steps_borne(rule):
    """How many numbers of steps stand ahead in the places of a row by this rule: in all its forms as many."""
    return max([len(steps) for steps, _, _ in FORMS[rule]], default=0)


def matched(sorts, found, pattern, thing):
    """The names found for letters so far and those that this step or saying, of the pattern's word, gives the
    pattern's letters; None where it isn't so built. sorts are the sorts of things by their names."""
    word, *letters = pattern.split(" ")
    if thing[0] != word:
        return None
    both = dict(found)
    for letter, part in zip(letters, thing[1:]):
        if letter.isdigit():
            if str(part) != letter:
                return None
        elif both.setdefault(letter, part) != part or SORTS.get(letter, sorts[part]) != sorts[part]:
            return None
    return both


def told_by(found, pattern):
    """The saying of a pattern, with the names found for its letters."""
    word, *letters = pattern.split(" ")
    return (word, *[found[letter] for letter in letters])


def turned_ways(saying):
    """A saying told otherwise, and as it is."""
    word = saying[0]
    if word in ("row", "ring", "same"):
        return [(word, *names) for names in permutations(list(saying[1:]))]
    if word == "angle":
        first, second = saying[1:4], saying[4:]
        pairs = [(first, second), (second, first), (first[::-1], second[::-1]), (second[::-1], first[::-1])]
        return [(word, *one, *other) for one, other in pairs]
    if word == "unlike":
        return [saying, (word, saying[2], saying[1])]
    if word == "at":
        return [saying]
    first, second = saying[1:3], saying[3:]
    ways = [(first, second), (first[::-1], second), (first, second[::-1]), (first[::-1], second[::-1])]
    return [(word, *one, *other) for one, other in ways] + [(word, *other, *one) for one, other in ways]
