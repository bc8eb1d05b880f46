"""Fractions: pairs of a top and a bottom from 1 on, without a common divisor above 1."""

from math import gcd


def fraction_of(top, bottom):
    """Return the fraction for the top over the bottom, which is from 1 on."""
    divisor = gcd(top, bottom)
    return (top // divisor, bottom // divisor)


def is_more(one_fraction, other_fraction):
    """Return whether the one fraction is above the other one, as numbers are."""
    return one_fraction[0] * other_fraction[1] > other_fraction[0] * one_fraction[1]
