"""Turns of the two letters, by which some poly of a list always becomes plain in y."""

from rowsfilled.checks import MOST_SMALL, check_poly, check_prime, is_number_within, is_poly_of, within_powers
from rowsfilled.errors import BadPolys, BadTurn, TooMany
from rowsfilled.terms import exchanged, high_of, substituted

TRIED = (None, ("swap",), ("slide", 1), ("slide", 2), ("slide", 3), ("slide", 4))


def is_turn(thing):
    """Whether any value is a turn."""
    if not isinstance(thing, tuple):
        return False
    if len(thing) == 2:
        return thing[0] in ("slide", "back") and is_number_within(thing[1], 1, 9)
    return thing == ("swap",)


def check_turn(turn):
    if not is_turn(turn):
        raise BadTurn("no turn")


def turned_by(prime, poly, turn):
    """The poly behind the turn, None being no turn; its powers may be above the limit."""
    if turn is None:
        return poly
    if turn == ("swap",):
        return exchanged(poly)
    word, power = turn
    shift = 1 if word == "slide" else prime - 1
    return substituted(prime, poly, ((0, power, shift), (1, 0, 1)), ((0, 1, 1),))


def turned(prime, poly, turn):
    """What the turn makes of the poly."""
    check_prime(prime)
    check_poly(prime, poly)
    check_turn(turn)
    return within_powers(turned_by(prime, poly, turn))


def turned_about(turn):
    """The turn that leads back."""
    check_turn(turn)
    if turn == ("swap",):
        return turn
    word, power = turn
    return ("back" if word == "slide" else "slide", power)


def has_plain_form(poly):
    top = high_of(poly, 1)
    return [i for i, j, _ in poly if j == top] == [0]


def is_plain(prime, poly):
    """Whether the part of the poly for its high in y is a number, the poly not being ()."""
    check_prime(prime)
    check_poly(prime, poly)
    return has_plain_form(poly)


def check_polys(prime, polys):
    if not isinstance(polys, (list, tuple)) or not all([is_poly_of(prime, poly) for poly in polys]):
        raise BadPolys("no list of polys of this prime")
    if all([poly == () for poly in polys]):
        raise BadPolys("no poly but ()")


def first_plain(prime, polys, turn):
    """The least index of a poly that is plain behind the turn, None if there is none."""
    for k, poly in enumerate(polys):
        if has_plain_form(turned_by(prime, poly, turn)):
            return k
    return None


def made_plain(prime, polys):
    """The pair (turn, spot): the first turn tried behind which a poly is plain, and the index of the first such."""
    check_prime(prime)
    check_polys(prime, polys)
    if any([max(high_of(poly, 0), high_of(poly, 1)) > MOST_SMALL for poly in polys]):
        raise TooMany(MOST_SMALL)
    for turn in TRIED:
        spot = first_plain(prime, polys, turn)
        if spot is not None:
            return turn, spot
    # Not reached: x becoming x plus y to the 4 keeps terms with powers of y up to 3 from meeting.
    return None
