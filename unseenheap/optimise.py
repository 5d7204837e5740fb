"""The optimiser: units with other rows that mean the same."""

from unseenheap.errors import NoCode, NoRule
from unseenheap.examine import table
from unseenheap.refining import Refining
from unseenheap.rowwords import is_number_to
from unseenheap.rules import rules_of_row, use_rule
from unseenheap.units import Unit


def refining_of(unit, number):
    """A code of a unit, in which no rule is used yet."""
    tables = table(unit)
    if not is_number_to(number, len(unit.codes) - 1):
        raise NoCode()
    return Refining(unit, number, tables[number])


def rules_at(unit, number):
    """The list of all pairs (place, rule) of rules that can be used in a code."""
    refining = refining_of(unit, number)
    found = []
    for at in range(refining.many):
        found.extend([(at, rule) for rule in rules_of_row(refining, at)])
    return found


def ruled(unit, number, place, rule):
    """The unit behind a rule that is used at a place of a code."""
    refining = refining_of(unit, number)
    if not is_number_to(place, refining.many - 1) or not isinstance(rule, str):
        raise NoRule()
    if rule not in rules_of_row(refining, place):
        raise NoRule()
    use_rule(refining, place, rule)
    codes = [refining.code_made() if at == number else code for at, code in enumerate(unit.codes)]
    return Unit(unit.texts, unit.tops, unit.classes, tuple(codes))


def all_refined(unit):
    """All codes of a unit, in which rules were used until none can be."""
    found = [Refining(unit, number, states) for number, states in enumerate(table(unit))]
    for refining in found:
        refine(refining)
    return found


def refine(refining):
    """Use the first rule of a code, again and again, until there is none."""
    # Rows that are not waiting have no rules, so the least one that waits and has any is the first of all.
    at = refining.next_waiting()
    while at is not None:
        rules = rules_of_row(refining, at)
        if rules:
            use_rule(refining, at, rules[0])
            refining.look_at_later(at)
        at = refining.next_waiting()


def optimised(unit):
    """The unit in which no rule can be used any more."""
    codes = [refining.code_made() for refining in all_refined(unit)]
    return Unit(unit.texts, unit.tops, unit.classes, tuple(codes))


def saved(unit):
    """The tuple of how many rows fewer each code has in the optimised unit."""
    return tuple([refining.many - len(refining.elder_numbers()) for refining in all_refined(unit)])


def elder_rows(unit):
    """For each code of the optimised unit the tuple of the elder numbers of its rows."""
    return tuple([tuple(refining.elder_numbers()) for refining in all_refined(unit)])
