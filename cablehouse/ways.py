"""The cheapest ways over the lines of a net, and the prices that show them to be so."""

from cablehouse.errors import NoOffice

PLAIN = "plain"
CODE = "code"


def check_office(net, thing):
    """Refuse what is no office of a net."""
    if not isinstance(thing, str) or thing not in net.offices():
        raise NoOffice("this is no office of the net")


def steps_from(net, there, p, g):
    """All tuples that a turn or a line leads to from a tuple (office, form), each with its cost."""
    office = there[0]
    form = there[1]
    steps = []
    if office in net.with_book():
        steps.append(((office, CODE if form == PLAIN else PLAIN), 0))
    for one, other, plain, code in net.lines():
        a_word = plain if form == PLAIN else code
        if a_word is not None and office in (one, other):
            many = p if form == PLAIN else g
            steps.append(((other if office == one else one, form), a_word * many))
    return steps


def cheapest(net, first, p, g):
    """A dict from each tuple that can be come to from an office to its least cost and the tuple ahead."""
    found = {(first, PLAIN): (0, None)}
    settled = {}
    left = list(found)
    while len(left) > 0:
        # No cost is below 0, so what is cheapest of those left comes to be no cheaper by any other one.
        there = min(left, key=lambda one: found[one][0])
        settled[there] = found[there]
        for behind, cost in steps_from(net, there, p, g):
            total = found[there][0] + cost
            if behind not in found or total < found[behind][0]:
                found[behind] = (total, there)
        left = [one for one in found if one not in settled]
    return settled


def prices(net, first, p, g):
    """A dict from each tuple (office, form) that can be come to from an office, begun plain, to its least cost."""
    check_office(net, first)
    found = cheapest(net, first, p, g)
    told = {}
    for office in sorted(net.offices()):
        for form in (PLAIN, CODE):
            if (office, form) in found:
                told[(office, form)] = found[(office, form)][0]
    return told


def way(net, first, last, p, g):
    """A cheapest way from an office to another one, plain at both ends, with its cost; None where there is none."""
    check_office(net, first)
    check_office(net, last)
    found = cheapest(net, first, p, g)
    there = (last, PLAIN)
    if there not in found:
        return None
    cost = found[there][0]
    back = []
    while there is not None:
        back.append(there)
        there = found[there][1]
    return (list(reversed(back)), cost)
