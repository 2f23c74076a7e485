"""Plain counting for sections 3 to 5: what things are, and moves, by the words of the document."""

from fractions import Fraction
from itertools import combinations
from math import gcd


def num(thing):
    return type(thing) is int


def lot(thing, n):
    if type(thing) is not tuple or len(thing) == 0:
        return False
    for place in thing:
        if not num(place) or place < 0 or place >= n:
            return False
    return list(thing) == sorted(set(thing))


def looks(thing, n):
    return type(thing) is tuple and len(thing) == n and all(lot(part, n) for part in thing)


def fraction(thing):
    if type(thing) is not tuple or len(thing) != 2 or not num(thing[0]) or not num(thing[1]) or thing[1] < 1:
        return False
    return gcd(thing[0], thing[1]) == 1


def worth(pair):
    return Fraction(pair[0], pair[1])


def pair_of(number):
    number = Fraction(number)
    return (number.numerator, number.denominator)


def row_for(thing, count):
    if type(thing) is not tuple or len(thing) != count or not all(fraction(part) for part in thing):
        return False
    return all(worth(part) > 0 for part in thing) and sum(worth(part) for part in thing) == 1


def rows_for(thing, own):
    if type(thing) is not tuple or len(thing) != len(own):
        return False
    return all(row_for(thing[k], len(own[k])) for k in range(len(own)))


def step(thing, n):
    if type(thing) is not tuple or len(thing) != 2 or not looks(thing[0], n):
        return False
    return thing[1] is None or rows_for(thing[1], thing[0])


def state(thing, n):
    return type(thing) is tuple and len(thing) == n and all(fraction(part) for part in thing)


def table(thing, n):
    if type(thing) is not tuple or len(thing) != n or not all(state(row, n) for row in thing):
        return False
    return all(min(worth(part) for part in row) >= 0 and sum(worth(part) for part in row) == 1 for row in thing)


def lots_of(n):
    return sorted(own for many in range(1, n + 1) for own in combinations(range(n), many))


def closed(own, some):
    return all(set(own[place]) <= set(some) for place in some)


def least_closed(own):
    every = [some for some in lots_of(len(own)) if closed(own, some)]
    return [some for some in every if not any(set(one) < set(some) for one in every)]


def ends_of_ways(own, place, moves):
    """Return the set of the places to which ways of so many moves lead from place."""
    ends = {place}
    for _ in range(moves):
        ends = {seen for one in ends for seen in own[one]}
    return ends


def ring_lengths(own, some, most):
    return [k for k in range(1, most + 1) if any(place in ends_of_ways(own, place, k) for place in some)]


def mean_range(numbers, d):
    """Return the ends of what shares of at least d make of numbers: all that is free at one of them."""
    k = len(numbers)
    means = []
    for at in range(k):
        shares = [d] * k
        shares[at] += 1 - k * d
        means.append(sum(share * number for share, number in zip(shares, numbers)))
    return min(means), max(means)


def move(own, shares, numbers):
    return [sum(worth(share) * numbers[place] for place, share in zip(own[p], shares[p])) for p in range(len(own))]


def draw_lot(rng, n):
    return tuple(sorted(rng.sample(range(n), rng.randint(1, n))))


def draw_looks(rng, n, narrow=False):
    if narrow:
        return tuple(tuple(sorted(rng.sample(range(n), rng.choice([1, 1, min(2, n)])))) for _ in range(n))
    return tuple(draw_lot(rng, n) for _ in range(n))


def draw_row(rng, count):
    weights = [rng.randint(1, 6) for _ in range(count)]
    return tuple(pair_of(Fraction(weight, sum(weights))) for weight in weights)


def draw_shares(rng, own):
    return tuple(draw_row(rng, len(some)) for some in own)


def draw_step(rng, n, told=None, narrow=False):
    own = draw_looks(rng, n, narrow)
    if told is None:
        told = rng.random() < 0.3
    return (own, draw_shares(rng, own) if told else None)


def draw_state(rng, n):
    return tuple(pair_of(Fraction(rng.randint(-20, 20), rng.randint(1, 7))) for _ in range(n))
