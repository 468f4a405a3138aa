"""Shares: pairs (top, bottom) of integers in lowest terms, the bottom above 0."""

from math import gcd


def share_of(top, bottom):
    """Return the share of an integer from 0 on and one above 0, in lowest terms."""
    part = gcd(top, bottom)
    return top // part, bottom // part


def added(one, other):
    """Return the sum of two shares."""
    return share_of(one[0] * other[1] + other[0] * one[1], one[1] * other[1])


def portion(share, top, bottom):
    """Return the share times the integer `top`, parted by `bottom`."""
    return share_of(share[0] * top, share[1] * bottom)
