"""Sums of powers of unknowns: tuples of pairs (powers, many), the powers rising, many never 0."""

from pointhouse.wholes import is_whole


def is_sum(many, thing):
    """Whether anything is a sum of so many unknowns."""
    if not isinstance(thing, tuple) or not all([is_term(many, part) for part in thing]):
        return False
    return all([one[0] < other[0] for one, other in zip(thing, thing[1:])])


def added(one, other):
    """One sum and another one together."""
    found = {powers: many for powers, many in one}
    for powers, many in other:
        found[powers] = found.get(powers, 0) + many
    return sum_of(found)


def lessened(one, other):
    """One sum less another one."""
    return added(one, [(powers, -many) for powers, many in other])


def times(one, other):
    """One sum times another one."""
    if not one or not other:
        return ()
    bits = (greatest_power(one) + greatest_power(other)).bit_length()
    rows = packed(other, bits)
    found = {}
    for key, many in packed(one, bits):
        for more, factor in rows:
            found[key + more] = found.get(key + more, 0) + many * factor
    return unpacked(found, bits, len(one[0][0]))


def worth_at(one, numbers):
    """What a sum comes to where these whole numbers stand for the unknowns."""
    whole = 0
    for powers, many in one:
        worth = many
        for number, power in zip(numbers, powers):
            worth = worth * raised(number, power)
        whole = whole + worth
    return whole


def is_term(many, thing):
    """Whether anything is a pair of as many powers as told and a whole number but 0."""
    if not isinstance(thing, tuple) or len(thing) != 2 or not is_whole(thing[1]) or thing[1] == 0:
        return False
    powers = thing[0]
    if not isinstance(powers, tuple) or len(powers) != many:
        return False
    return all([is_whole(power) and power >= 0 for power in powers])


def sum_of(found):
    """The sum of a dict by powers, in which some may have come to nought."""
    return tuple([(powers, found[powers]) for powers in sorted(found) if found[powers] != 0])


def greatest_power(one):
    """The greatest power in a sum."""
    return max([max(powers, default=0) for powers, _ in one])


def packed(one, bits):
    """The pairs of a sum, all powers in one number, so many bits each: such are added at once and rise alike."""
    rows = []
    for powers, many in one:
        key = 0
        for power in powers:
            key = (key << bits) + power
        rows.append((key, many))
    return rows


def unpacked(found, bits, many):
    """The sum of a dict by powers that are packed into numbers."""
    mask = (1 << bits) - 1
    shifts = [bits * at for at in reversed(range(many))]
    rows = [(key, found[key]) for key in sorted(found) if found[key] != 0]
    return tuple([(tuple([key >> shift & mask for shift in shifts]), worth) for key, worth in rows])


def raised(number, power):
    """The number taken so many times, by squares, since powers may be great where the number is 0, 1 or -1."""
    worth = 1
    while power > 0:
        if power & 1 == 1:
            worth = worth * number
        number = number * number
        power = power >> 1
    return worth
