"""Whole numbers, and the weights that make a code safe."""


def is_whole(thing):
    """Whether a thing is a whole number: an int that is no truth."""
    return isinstance(thing, int) and not isinstance(thing, bool)


def common_divisor(one, other):
    """The greatest divisor that two whole numbers have in common; of 0 and another one, that one."""
    left = abs(one)
    right = abs(other)
    while right != 0:
        over = left % right
        left = right
        right = over
    return left


def are_safe(weights, m):
    """Whether no weight, and no difference of two neighbours, has a divisor above 1 in common with m."""
    differences = [behind - ahead for ahead, behind in zip(weights, weights[1:])]
    return all([common_divisor(number, m) == 1 for number in weights + differences])


def first_safe(m, length):
    """The first safe weights of a length in the order of lists, or None where there are none."""
    weights = []
    while len(weights) < length:
        fitting = [weight for weight in range(m) if are_safe(weights[-1:] + [weight], m)]
        # No step need be taken back: for an odd m, 2 fits behind 1 and 1 behind 2 without end;
        # for an even m, nothing fits behind any weight.
        if len(fitting) == 0:
            return None
        weights.append(fitting[0])
    return weights
