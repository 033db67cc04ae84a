"""Chains of differences, and what they show."""


def chain_sum(differences, numbers):
    """(first, last, total) of the chain that the numbers make, or None if they are no chain."""
    if not numbers or not all([0 <= number < len(differences) for number in numbers]):
        return None
    first, last, total = differences[numbers[0]]
    for number in numbers[1:]:
        u, v, c = differences[number]
        if u != last:
            return None
        last = v
        total = total + c
    return first, last, total


def is_ring(differences, numbers):
    """True if the numbers are a chain that ends where it began and whose sum is below 0, otherwise False."""
    found = chain_sum(differences, numbers)
    return found is not None and found[0] == found[1] and found[2] < 0


def floor_value(differences, numbers, unknown):
    """The value that the unknown is at least, or None if the numbers are no floor of it."""
    found = chain_sum(differences, numbers)
    if found is None or found[0] != 0 or found[1] != unknown:
        return None
    return -found[2]


def keeps(differences, values):
    """True if the values, those of the unknowns from 1 on, keep all differences, otherwise False."""
    known = [0, *values]
    return all([known[u] - known[v] <= c for u, v, c in differences])
