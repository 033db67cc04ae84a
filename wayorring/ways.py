"""The ways of questions that hang on the inputs.

A form is a tuple (k, c): the value of unknown k plus c, or c alone if k is 0. A way is a tuple (result, differences).
"""

from wayorring.values import holds


def compare_ways(sign, left, right):
    """The list of the ways of a comparison of two forms."""
    i, a = left
    j, b = right
    if i == j:
        return [(holds(sign, a, b), ())]
    at_most = (i, j, b - a)
    below = (i, j, b - a - 1)
    at_least = (j, i, a - b)
    above = (j, i, a - b - 1)
    if sign == "<":
        return [(True, (below,)), (False, (at_least,))]
    if sign == "<=":
        return [(True, (at_most,)), (False, (above,))]
    if sign == ">":
        return [(True, (above,)), (False, (at_most,))]
    if sign == ">=":
        return [(True, (at_least,)), (False, (below,))]
    if sign == "==":
        return [(True, (at_most, at_least)), (False, (below,)), (False, (above,))]
    return [(True, (below,)), (True, (above,)), (False, (at_most, at_least))]


def index_ways(form, size):
    """The list of the ways of an index in a list: -1 and size are the results of one that is outside."""
    i, a = form
    if i == 0:
        return [(max(-1, min(a, size)), ())]
    ways = [(-1, ((i, 0, -1 - a),))]
    for k in range(size):
        ways.append((k, ((i, 0, k - a), (0, i, a - k))))
    ways.append((size, ((0, i, a - size),)))
    return ways


def range_ways(form, lo, hi):
    """The list of the ways of a range: the result is -1 below it, 0 within it and 1 above it."""
    i, a = form
    if i == 0:
        return [(_side_of(a, lo, hi), ())]
    return [
        (-1, ((i, 0, lo - 1 - a),)),
        (0, ((0, i, a - lo), (i, 0, hi - a))),
        (1, ((0, i, a - hi - 1),)),
    ]


def form_value(form, inputs):
    """The integer that a form stands for with these inputs."""
    k, c = form
    return c if k == 0 else inputs[k - 1] + c


def _side_of(number, lo, hi):
    """-1 for a number below the range, 0 for one within it, 1 for one above it."""
    if number < lo:
        return -1
    return 1 if number > hi else 0
