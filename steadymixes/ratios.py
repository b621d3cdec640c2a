"""Fractions (above, below) in lowest terms, and lists of them over one common below."""

from math import gcd, lcm


def ratio(above, below):
    """The fraction of two integers, of which below is from 1 on."""
    common = gcd(above, below)
    return above // common, below // common


def scaled(parts):
    """Fractions as integers over one below: (numbers, below)."""
    below = 1
    for _, part_below in parts:
        below = lcm(below, part_below)
    return [above * (below // part_below) for above, part_below in parts], below


def sum_of(parts):
    """The sum of fractions."""
    numbers, below = scaled(parts)
    return ratio(sum(numbers), below)


def times(one, other):
    """The product of two fractions."""
    return ratio(one[0] * other[0], one[1] * other[1])


def extremes(parts):
    """The least and the greatest of fractions."""
    numbers, below = scaled(parts)
    return ratio(min(numbers), below), ratio(max(numbers), below)


def ascending(mixes):
    """Mixes without two alike in one list, ascending by the worth of their fractions."""
    # Fractions as tuples would compare by their integers; over one common below those are the worths.
    below = scaled([chance for mix in mixes for chance in mix])[1]
    keyed = [([part[0] * (below // part[1]) for part in mix], mix) for mix in mixes]
    return [mix for _, mix in sorted(keyed)]
