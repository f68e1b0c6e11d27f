"""Ways of laying things into heaps, exact fractions, and the fillings of a column."""

from edgetally.errors import BadNumber


def factorial(number):
    product = 1
    for factor in range(2, number + 1):
        product *= factor
    return product


def power(base, many):
    """Tells the product of the base, taken so many times."""
    product = 1
    for factor in range(many):
        product *= base
    return product


def ways(parts):
    """Tells in how many ways marked things can be laid into heaps of these sizes."""
    for part in parts:
        if part < 0:
            raise BadNumber(f"a part of {part} is below nought")
    told = factorial(sum(parts))
    for part in parts:
        # No rest is lost: the factorials of parts, taken together, go into that of their sum.
        told //= factorial(part)
    return told


def common_factor(one, other):
    while other > 0:
        one, other = other, one % other
    return one


def lowest(top, under):
    """Tells the fraction in lowest terms."""
    if under < 1:
        raise BadNumber(f"an under of {under} is below one")
    factor = common_factor(abs(top), under)
    return (top // factor, under // factor)


def plus(one, other):
    """Tells the sum of two fractions."""
    one_top, one_under = one
    other_top, other_under = other
    return lowest(one_top * other_under + other_top * one_under, one_under * other_under)


def times(one, other):
    """Tells the product of two fractions."""
    one_top, one_under = one
    other_top, other_under = other
    return lowest(one_top * other_top, one_under * other_under)


def held(one, other):
    """Tells -1, 0 or 1: the first fraction is less than the second, the same number, or more."""
    one_top, one_under = one
    other_top, other_under = other
    left = one_top * other_under
    right = other_top * one_under
    if left == right:
        return 0
    return -1 if left < right else 1


def fillings(rests, many, pairs):
    """Tells all tuples of counts within the rests and the pairs whose sum is many, rising."""
    lows = [low for low, high in pairs]
    tops = [min(rest, high) for rest, (low, high) in zip(rests, pairs)]
    begun = [((), many)]
    for row in range(len(rests)):
        # Counts that the rows behind can't bring to the sum are left out here,
        # so that no more is begun than can be ended.
        fewest_behind = sum(lows[row + 1:])
        most_behind = sum(tops[row + 1:])
        begun = [
            (counts + (count,), left - count)
            for counts, left in begun
            for count in range(
                max(lows[row], left - most_behind),
                min(tops[row], left - fewest_behind) + 1,
            )
        ]
    return [counts for counts, left in begun if left == 0]
