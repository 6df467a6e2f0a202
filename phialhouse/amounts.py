"""Amounts: exact fractions (top, bottom) in lowest terms, from nought on."""

from phialhouse.errors import NoAmount, NoText

NOUGHT = (0, 1)
ONE = (1, 1)
FIGURES = "0123456789"
MOST_FIGURES = 60


def is_whole_number(thing):
    return isinstance(thing, int) and not isinstance(thing, bool)


def common_divisor(one, other):
    while other != 0:
        rest = one % other
        one = other
        other = rest
    return one


def lowest_terms(top, bottom):
    divisor = common_divisor(top, bottom)
    return (top // divisor, bottom // divisor)


def is_amount(thing):
    if not isinstance(thing, tuple) or len(thing) != 2:
        return False
    if not is_whole_number(thing[0]) or not is_whole_number(thing[1]):
        return False
    return thing[0] >= 0 and thing[1] >= 1 and common_divisor(thing[0], thing[1]) == 1


def amount(top, bottom=1):
    if not is_whole_number(top) or not is_whole_number(bottom):
        raise NoAmount("an amount is made of two whole numbers")
    if top < 0 or bottom < 1:
        raise NoAmount("the top of an amount is at least 0, its bottom at least 1")
    return lowest_terms(top, bottom)


def plus(one, other):
    # Sums begin at nought, and finding divisors is by far the slowest part of adding.
    if one == NOUGHT:
        return other
    return lowest_terms(one[0] * other[1] + other[0] * one[1], one[1] * other[1])


def minus(one, other):
    if less(one, other):
        raise NoAmount("more is taken away than there is")
    return lowest_terms(one[0] * other[1] - other[0] * one[1], one[1] * other[1])


def times(one, other):
    return lowest_terms(one[0] * other[0], one[1] * other[1])


def over(one, other):
    if other == NOUGHT:
        raise NoAmount("nothing is divided by nought")
    return lowest_terms(one[0] * other[1], one[1] * other[0])


def less(one, other):
    return one[0] * other[1] < other[0] * one[1]


def shown_amount(one):
    top = one[0]
    bottom = one[1]
    return f"{top}" if bottom == 1 else f"{top}/{bottom}"


# The signs are looked at one by one, since int alone would let by blanks, signs and figures of other scripts.
def read_figures(word):
    if not 1 <= len(word) <= MOST_FIGURES or any([sign not in FIGURES for sign in word]):
        return None
    if word[0] == "0" and len(word) > 1:
        return None
    return int(word)


def read_amount(text):
    if not isinstance(text, str):
        raise NoText(None)
    cut = text.partition("/")
    top = read_figures(cut[0])
    bottom = 1 if cut[1] == "" else read_figures(cut[2])
    if top is None or bottom is None or bottom == 0:
        raise NoText(None)
    found = lowest_terms(top, bottom)
    # Each amount is written in one way alone, so 4/2 and 3/1 are told from 2 and 3 by writing them anew.
    if shown_amount(found) != text:
        raise NoText(None)
    return found
