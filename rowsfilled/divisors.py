"""Common factors and quotients of polys in both letters, unchecked."""

from rowsfilled.images import y_common
from rowsfilled.terms import exchanged, high_of
from rowsfilled.xlists import inverse_number, list_common
from rowsfilled.ylists import content, poly_of_y, primitive, y_list_of, y_quotient, y_scaled


def last_of(poly):
    """The term with the greatest power of y, among these with the greatest power of x."""
    return max(poly, key=lambda term: (term[1], term[0]))


def told_with_one(prime, poly):
    """The poly times a number, c being 1 in its last term; () for ()."""
    if poly == ():
        return ()
    inverse = inverse_number(prime, last_of(poly)[2])
    return tuple([(i, j, c * inverse % prime) for i, j, c in poly])


def shared_factor(prime, one, other):
    """The greatest common factor of two polys, but for a number."""
    first, second = y_list_of(one), y_list_of(other)
    numbers = list_common(prime, content(prime, first), content(prime, second))
    found = y_common(prime, primitive(prime, first), primitive(prime, second))
    return poly_of_y(y_scaled(prime, numbers, found))


def factor_shared(prime, one, other):
    """The greatest common factor of two polys, c being 1 in its last term; () if both are ()."""
    if one == () or other == ():
        return told_with_one(prime, one + other)
    tallest = [max(high_of(one, at), high_of(other, at)) for at in (0, 1)]
    if tallest[1] > tallest[0]:
        # The steps go down in y: the letter of lesser powers needs fewer of them.
        return told_with_one(prime, exchanged(shared_factor(prime, exchanged(one), exchanged(other))))
    return told_with_one(prime, shared_factor(prime, one, other))


def factor_of_all(prime, polys):
    """The greatest common factor of all polys; () if all are ()."""
    found = ()
    for poly in polys:
        found = factor_shared(prime, found, poly)
    return found


def exact_quotient(prime, one, other):
    """The poly that times other, which is not (), is one; None if there is none."""
    rows = y_quotient(prime, y_list_of(one), y_list_of(other))
    return None if rows is None else poly_of_y(rows)
