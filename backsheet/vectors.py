"""Vectors: lists of integers, and those of their sums that are 0 at as many places as can be."""

from math import gcd, lcm

from backsheet.ratios import multiply, ratio


def whole_scale(numbers):
    """Return the least ratio above 0 that makes integers without a common divisor of ratios."""
    above, below = 0, 1
    for top, bottom in numbers:
        above = gcd(above, top)
        below = lcm(below, bottom)
    # The ratios are in lowest terms, so a divisor of all tops divides no bottom.
    return ratio(below, max(above, 1))


def whole_vector(numbers):
    """Return the reduced vector that is a multiple of ratios, not all 0."""
    scale = whole_scale(numbers)
    return reduced_vector([multiply(scale, number)[0] for number in numbers])


def reduced_vector(vector):
    """Return integers, not all 0, without a common divisor, the first one other than 0 above 0."""
    common = 0
    for number in vector:
        common = gcd(common, number)
    first = [number for number in vector if number != 0][0]
    sign = -1 if first < 0 else 1
    return [sign * number // common for number in vector]


def still_vectors(vectors, at):
    """Return vectors that span those of the sums of vectors that are 0 at a place."""
    moving = [vector for vector in vectors if vector[at] != 0]
    still = [vector for vector in vectors if vector[at] == 0]
    if moving != []:
        last = moving[-1]
        still.extend([cancelled_vector(vector, last, at) for vector in moving[:-1]])
    return still


def cancelled_vector(vector, other, at):
    """Return a sum of multiples of two vectors that is 0 at a place."""
    return reduced_vector([other[at] * one - vector[at] * two for one, two in zip(vector, other)])


def elementary_vectors(vectors, needed):
    """Return the elementary ones among the sums of vectors that are not 0 at a needed place.

    A sum is elementary if no other one is 0 wherever it is, but for its
    multiples, of which just one is returned. The vectors are reduced, none is a
    sum of the others, and all are 0 ahead of the needed place.
    """
    found = {}
    if is_moving(vectors, needed):
        collect_vectors(vectors, needed, needed + 1, found)
    return list(found.values())


def is_moving(vectors, at):
    """Return whether some of the vectors are not 0 at a place."""
    return any([vector[at] != 0 for vector in vectors])


def collect_vectors(vectors, needed, first, found):
    """Find the elementary vectors that are not 0 at a needed place, by what they are from a first place on.

    What is 0 at one independent place less than there are vectors is elementary
    with its multiples, and each elementary vector is found so.
    """
    if len(vectors) == 1:
        vector = vectors[0]
        found[tuple([at for at, number in enumerate(vector) if number != 0])] = vector
        return
    for at in range(first, len(vectors[0])):
        still = still_vectors(vectors, at)
        if len(still) < len(vectors) and is_moving(still, needed):
            collect_vectors(still, needed, at + 1, found)
