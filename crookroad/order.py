"""The order of lengths, from 3 to 1."""

from crookroad.counts import check_count

MOST_TOLD = 200


def halvings(number):
    """What is left of the number, halved as often as it can be, and how often that is."""
    halved = 0
    odd = number
    while odd % 2 == 0:
        odd = odd // 2
        halved += 1
    return (odd, halved)


def rank(number):
    """A tuple that rises as the numbers stand in the order."""
    odd, halved = halvings(number)
    if odd == 1:
        return (1, -halved, 1)
    return (0, halved, odd)


def ahead(one, other):
    """Whether the first number stands ahead of the other one."""
    check_count(one, 1)
    check_count(other, 1)
    return rank(one) < rank(other)


def arranged(numbers):
    """A new list of the numbers in the order of lengths."""
    for number in numbers:
        check_count(number, 1)
    return sorted(numbers, key=rank)


def following(number, most):
    """The numbers from 1 to the most that are the number or stand behind it, rising by size."""
    check_count(number, 1)
    check_count(most, 0, MOST_TOLD)
    return [later for later in range(1, most + 1) if not ahead(later, number)]
