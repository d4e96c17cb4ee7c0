"""Why answers are there: their witnesses, and the cuts with which they go."""

from itertools import combinations

from joinhall.catalogues import ascends
from joinhall.errors import NoAnswer, TooLarge
from joinhall.facts import explained, has_facts

FACT_LIMIT = 16


def witnesses(catalogue, pattern, answer):
    """Return all different witnesses of an answer, ascending."""
    found = [facts for one, facts in explained(catalogue, pattern) if one == answer]
    if len(found) == 0:
        raise NoAnswer("this is no answer")
    return tuple(sorted(set([tuple(sorted(set(facts))) for facts in found])))


def least_witness(catalogue, pattern, answer):
    """Return the first one of the witnesses with the fewest facts."""
    return min([(len(one), one) for one in witnesses(catalogue, pattern, answer)])[1]


def bits_of(places):
    """Return the integer that has its bits at some different places."""
    return sum([1 << place for place in places])


def sets_that_hold(masks, size):
    """Return a list that tells of each set of so many things, written as the bits of an
    integer, whether it has all things of one of the masks."""
    held = [False] * (1 << size)
    for mask in masks:
        held[mask] = True
    for place in range(size):
        for mask in range(1 << size):
            # A set holds what the set without this one of its things holds.
            if mask & (1 << place) != 0 and held[mask - (1 << place)]:
                held[mask] = True
    return held


def least_hit(masks, size):
    """Return the least tuple, of those with the fewest places, that has one of each mask."""
    held = sets_that_hold(masks, size)
    for many in range(size):
        for places in combinations(range(size), many):
            # Places hit each mask if no mask is left in what is outside of them.
            if not held[(1 << size) - 1 - bits_of(places)]:
                return places
    return tuple(range(size))


def least_cut(catalogue, pattern, answer):
    """Return the least one of the cuts with the fewest facts."""
    found = witnesses(catalogue, pattern, answer)
    facts = sorted(set([fact for one in found for fact in one]))
    if len(facts) > FACT_LIMIT:
        raise TooLarge("the witnesses have too many different facts")
    masks = [bits_of([facts.index(fact) for fact in one]) for one in found]
    return tuple([facts[place] for place in least_hit(masks, len(facts))])


def check_cut(catalogue, pattern, answer, facts):
    """Tell whether a tuple of facts is a cut of an answer."""
    found = witnesses(catalogue, pattern, answer)
    if not has_facts(catalogue, facts) or not ascends(facts):
        return False
    return all([any([fact in facts for fact in one]) for one in found])


def needed(catalogue, pattern, answer):
    """Return the facts that are in all witnesses of an answer, ascending."""
    found = witnesses(catalogue, pattern, answer)
    return tuple([fact for fact in found[0] if all([fact in one for one in found])])
