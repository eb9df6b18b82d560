"""Numbers that are asked for, and the bounds that they keep to."""

from crookroad.errors import BadCount


def check_count(number, fewest, most=None):
    """Refuses a number that is below the fewest or, where there is a most, above it."""
    if number < fewest or (most is not None and number > most):
        raise BadCount("the number is out of bounds")
