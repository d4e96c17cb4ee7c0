"""Totals of answers in arithmetics."""

from joinhall.arithmetics import Arithmetic
from joinhall.errors import WeightError
from joinhall.facts import explained, has_facts
from joinhall.partials import relations_of
from joinhall.patterns import check_fit
from joinhall.plans import cheap_parts
from joinhall.rising import Amount, Rising


def scale_for(catalogue, weights, arithmetic):
    """Return an arithmetic whose weights are those of facts of a catalogue."""
    scale = Arithmetic(arithmetic, weights)
    if not has_facts(catalogue, [fact for fact, _ in weights]):
        raise WeightError("a weight is that of no fact of the catalogue")
    return scale


def totals(catalogue, weights, pattern, arithmetic):
    """Return the pair of each answer, ascending, and its total."""
    check_fit(catalogue, pattern)
    scale = scale_for(catalogue, weights, arithmetic)
    amounts = {}
    for answer, facts in explained(catalogue, pattern):
        if answer not in amounts:
            amounts[answer] = Amount(scale)
        amounts[answer].grow(scale.worth(facts))
    return tuple([(answer, amounts[answer].value()) for answer in sorted(amounts)])


def whole_total(catalogue, weights, pattern, arithmetic):
    """Return the plus of the totals of all answers."""
    check_fit(catalogue, pattern)
    scale = scale_for(catalogue, weights, arithmetic)
    relations = relations_of(catalogue, pattern)
    parts = cheap_parts(relations)
    return Rising(scale, pattern[1], relations, parts).total_at(0, ())
