"""Exact fractions: tuples (top, bottom) in lowest terms, the bottom from 1 on."""

from signsmooth.errors import NoFraction

NOUGHT = (0, 1)
ONE = (1, 1)


# Python counts True and False among its ints; here they are no numbers.
def is_whole(thing):
    return isinstance(thing, int) and not isinstance(thing, bool)


def is_between(thing, least, most):
    return is_whole(thing) and least <= thing <= most


def is_fraction(thing):
    if not isinstance(thing, tuple) or len(thing) != 2:
        return False
    if not is_whole(thing[0]) or not is_whole(thing[1]):
        return False
    return thing[1] >= 1 and common_divisor(thing[0], thing[1]) == 1


def common_divisor(one, other):
    greater = abs(one)
    lesser = abs(other)
    while lesser != 0:
        rest = greater % lesser
        greater = lesser
        lesser = rest
    return greater


def shared_divisor(number, others):
    found = number
    for other in others:
        found = common_divisor(other, found)
    return found


# The sign goes to the top, so that each number is written in one way alone and `==` tells equal ones.
def in_lowest_terms(top, bottom):
    divisor = common_divisor(top, bottom)
    if bottom < 0:
        divisor = -divisor
    return (top // divisor, bottom // divisor)


def fraction(top, bottom=1):
    if not is_whole(top) or not is_whole(bottom):
        raise NoFraction("a fraction is made of two whole numbers")
    if bottom == 0:
        raise NoFraction("the bottom of a fraction is not 0")
    return in_lowest_terms(top, bottom)


# What the bottoms share is all that a sum can be divided by: so no divisor of the long products is ever looked for.
def sum_of(one, other):
    shared = common_divisor(one[1], other[1])
    top = one[0] * (other[1] // shared) + other[0] * (one[1] // shared)
    divisor = common_divisor(top, shared)
    return (top // divisor, one[1] // shared * (other[1] // divisor))


def rest_of(one, other):
    return sum_of(one, (-other[0], other[1]))


# Both are in lowest terms, so only the one's top and the other's bottom can share a divisor.
def product_of(one, other):
    first = common_divisor(one[0], other[1])
    second = common_divisor(other[0], one[1])
    return (one[0] // first * (other[0] // second), one[1] // second * (other[1] // first))


def quotient_of(one, other):
    if other[0] == 0:
        raise NoFraction("nothing is divided by 0")
    return product_of(one, in_lowest_terms(other[1], other[0]))


# Bottoms are above 0, so multiplying by them keeps the order.
def is_less(one, other):
    return one[0] * other[1] < other[0] * one[1]
