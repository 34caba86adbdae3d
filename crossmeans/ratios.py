"""Exact numbers: ratios in lowest terms, their arithmetic and their written form."""

from math import gcd

from crossmeans.checks import is_decimal, is_whole
from crossmeans.errors import BadNumber, BadText, ZeroDivisor

_MOST_SIGNS = 400


def ratio(num, den=1):
    """The ratio that is one whole number divided by another one."""
    if den == 0:
        raise ZeroDivisor()
    shared = gcd(num, den)
    if den < 0:
        shared = -shared
    return (num // shared, den // shared)


def is_ratio(value):
    """True if the value is a ratio itself: a tuple in lowest terms, whatever its kind is."""
    if not isinstance(value, tuple) or len(value) != 2:
        return False
    if not is_whole(value[0]) or not is_whole(value[1]):
        return False
    return value[1] >= 1 and gcd(value[0], value[1]) == 1


def are_ratios(value, count):
    """True if the value is a tuple of so many ratios, whatever its kind is."""
    return isinstance(value, tuple) and len(value) == count and all([is_ratio(part) for part in value])


def as_ratio(number, at=0):
    """The ratio of the number; a value that is no number raises BadNumber with the place that is told."""
    if is_whole(number):
        return (number, 1)
    if not isinstance(number, tuple) or len(number) != 2:
        raise BadNumber(at)
    if not is_whole(number[0]) or not is_whole(number[1]) or number[1] == 0:
        raise BadNumber(at)
    return ratio(number[0], number[1])


def as_ratios(numbers):
    """The ratios of a list of numbers, a new list."""
    return [as_ratio(number, at) for at, number in enumerate(numbers)]


def plus(left, right):
    """The sum of two numbers."""
    num, den = as_ratio(left, 0)
    other_num, other_den = as_ratio(right, 1)
    return ratio(num * other_den + other_num * den, den * other_den)


def minus(left, right):
    """The left number minus the right one."""
    num, den = as_ratio(left, 0)
    other_num, other_den = as_ratio(right, 1)
    return ratio(num * other_den - other_num * den, den * other_den)


def times(left, right):
    """The product of two numbers."""
    num, den = as_ratio(left, 0)
    other_num, other_den = as_ratio(right, 1)
    return ratio(num * other_num, den * other_den)


def over(left, right):
    """The left number divided by the right one."""
    num, den = as_ratio(left, 0)
    other_num, other_den = as_ratio(right, 1)
    return ratio(num * other_den, den * other_num)


def negated(number):
    """Minus the number."""
    num, den = as_ratio(number)
    return (-num, den)


def compare(left, right):
    """-1 if the left number is less, 0 if both are equal, 1 if the left number is greater."""
    difference, _ = minus(left, right)
    if difference < 0:
        return -1
    return 1 if difference > 0 else 0


def total(numbers):
    """The sum of a list of numbers."""
    result = (0, 1)
    for part in as_ratios(numbers):
        result = plus(result, part)
    return result


def product_sum(lefts, rights):
    """The sum of the products of the numbers that stand at equal places of two lists."""
    return total([times(left, right) for left, right in zip(lefts, rights)])


def ratio_text(number):
    """The written form of the ratio of the number."""
    num, den = as_ratio(number)
    return str(num) if den == 1 else f"{num}/{den}"


def read_ratio(text):
    """The ratio whose written form is the text."""
    if len(text) > _MOST_SIGNS:
        raise BadText(text)
    above, slash, below = text.partition("/")
    if not is_decimal(above.removeprefix("-")) or (slash and not is_decimal(below)):
        raise BadText(text)
    den = int(below) if slash else 1
    if den == 0:
        raise BadText(text)
    result = ratio(int(above), den)
    # Leading zeros, -0 and uncancelled terms are left: only the written form itself is the same text.
    if ratio_text(result) != text:
        raise BadText(text)
    return result
