"""Greatest common factors of lists in y (ylists.py) over the quotients of lists in x.

Those of few parts are found by Euclid's steps. With more parts the lists on the way would become too long: then the
factor is put together from its images modulo prime lists in x.
"""

from rowsfilled.moduli import list_inverse, list_rest, rest_common, rest_scaled, y_rest
from rowsfilled.splitting import next_prime
from rowsfilled.xlists import list_common, list_divided, list_less, list_plus, list_times
from rowsfilled.ylists import primitive, y_less, y_quotient, y_scaled

MANY_PARTS = 6
BEFORE_PRIMES = (0, 0, 0, 0, 0, 1)


def pseudo_rest(prime, one, other):
    """What one, times some list in x, leaves by other: one of fewer parts."""
    rest = one
    while len(rest) >= len(other):
        shared = list_common(prime, rest[-1], other[-1])
        raising = list_divided(prime, other[-1], shared)[0]
        taking = list_divided(prime, rest[-1], shared)[0]
        taken = [[] for _ in range(len(rest) - len(other))] + y_scaled(prime, taking, other)
        rest = y_less(prime, y_scaled(prime, raising, rest), taken)
    return rest


def common_by_steps(prime, one, other):
    """The greatest common factor of two primitive lists in y, the second of no more parts."""
    while other:
        one, other = other, primitive(prime, pseudo_rest(prime, one, other))
    return one


def image_of(prime, q, one, other, scale):
    """The greatest common factor modulo q, with scale as its highest part."""
    found = rest_common(prime, q, y_rest(prime, q, one), y_rest(prime, q, other))
    return rest_scaled(prime, q, list_rest(prime, q, scale), found)


def joined(prime, known, modulus, image, q):
    """The list in y that leaves known by the modulus and the image by q, which share nothing."""
    inverse = list_inverse(prime, q, list_rest(prime, q, modulus))
    found = []
    for before, now in zip(known, image):
        change = list_times(prime, list_rest(prime, q, list_less(prime, now, before)), inverse)
        found.append(list_plus(prime, before, list_times(prime, modulus, list_rest(prime, q, change))))
    return found


def common_by_images(prime, one, other):
    """The greatest common factor of two primitive lists in y.

    An image never has too few parts, as q divides no highest part. What divides both lists and has no more parts than
    an image is the factor itself: this is tried when one more image has changed nothing.
    """
    scale, both = list_common(prime, one[-1], other[-1]), list_times(prime, one[-1], other[-1])
    q, known, modulus = list(BEFORE_PRIMES), [], [1]
    while True:
        q = next_prime(prime, q)
        if list_rest(prime, q, both):
            image = image_of(prime, q, one, other, scale)
            if len(image) == 1:
                return [[1]]
            if not known or len(image) < len(known):
                known, modulus = image, q
            elif len(image) == len(known):
                before, known = known, joined(prime, known, modulus, image, q)
                modulus = list_times(prime, modulus, q)
                if before == known and divides_both(prime, primitive(prime, known), one, other):
                    return primitive(prime, known)


def divides_both(prime, rows, one, other):
    return y_quotient(prime, one, rows) is not None and y_quotient(prime, other, rows) is not None


def y_common(prime, one, other):
    """The greatest common factor over the quotients of lists in x, divided by its content; [] for two empty lists."""
    one, other = primitive(prime, one), primitive(prime, other)
    if len(one) < len(other):
        one, other = other, one
    if len(other) > MANY_PARTS:
        return common_by_images(prime, one, other)
    return common_by_steps(prime, one, other)
