"""Texts of terms and polys, unchecked, and the reading of them sign by sign."""

from rowsfilled.checks import MOST_POWER

FIGURES = "0123456789"
JOINT = " + "


def power_worded(letter, power):
    if power < 2:
        return letter if power == 1 else ""
    return letter + "^" + str(power)


def term_worded(term):
    i, j, c = term
    letters = power_worded("x", i) + power_worded("y", j)
    return letters if c == 1 and letters else str(c) + letters


def poly_worded(poly):
    return JOINT.join([term_worded(term) for term in reversed(poly)]) if poly else "0"


def least_power(text):
    """The least power whose text, behind its letter, begins with this one; None if there is none."""
    if text == "":
        return 1
    if text == "^":
        return 2
    figures = text[1:]
    if text[0] != "^" or not all([sign in FIGURES for sign in figures]):
        return None
    if figures[0] == "0" or len(figures) > len(str(MOST_POWER)):
        return None
    return int(figures) if figures != "1" else 10


def least_powers(text):
    """The least (i, j) whose letters begin with this text, None if there are none."""
    front, y, rest = text.partition("y")
    if front != "" and front[0] != "x":
        return None
    i = least_power(front[1:]) if front != "" else 0
    if y == "" or i is None:
        return None if i is None else (i, 0)
    # In front of y all of the power of x is told.
    j = least_power(rest) if power_worded("x", i) == front else None
    return None if j is None else (i, j)


def least_term(prime, text):
    """The least term (i, j, c) whose text begins with this one, which is not empty; None if there is none."""
    if text[0] not in FIGURES:
        powers = least_powers(text)
        return None if powers is None else (powers[0], powers[1], 1)
    c = int(text[0])
    if c < 1 or c >= prime or c == 1 and text != "1":
        return None
    powers = least_powers(text[1:])
    return None if powers is None else (powers[0], powers[1], c)


def term_read(prime, text, at, bound):
    """The pair (term, end): the term, below bound, that stands from at to end; None if it breaks off at end."""
    end = at
    term = None
    while end < len(text):
        more = least_term(prime, text[at:end + 1])
        if more is None or more[:2] >= bound:
            break
        term, end = more, end + 1
    return (term if term is not None and term_worded(term) == text[at:end] else None), end


def joint_end(text, at):
    """How far the signs that join terms stand in the text from at on."""
    end = at
    while end < len(text) and end - at < len(JOINT) and text[end] == JOINT[end - at]:
        end += 1
    return end


def poly_read(prime, text):
    """The pair (poly, None), or the pair (None, n): the text of some poly begins with the first n signs, not more."""
    if text[:1] == "0":
        return ((), None) if text == "0" else (None, 1)
    terms = []
    at, bound = 0, (MOST_POWER + 1, 0)
    while True:
        term, end = term_read(prime, text, at, bound)
        if term is None:
            return None, end
        terms.append(term)
        if end == len(text):
            return tuple(reversed(terms)), None
        bound = term[:2]
        # Behind a number no term can come.
        at = joint_end(text, end) if bound > (0, 0) else end
        if at - end < len(JOINT):
            return None, at
