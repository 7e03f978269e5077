"""Names in conditions and programs: where they are used, and what is put in their place."""

from ownfill.conditions import condition_names
from ownfill.programs import ASKING_KINDS, nodes_of, parts_of, program_names


def names_used(kind, meant):
    """The list of the names in a condition or a program, in the order of the first occurrences."""
    return condition_names(meant) if kind == "condition" else program_names(meant)


def names_called(kind, meant):
    """The list of the names that are called in a program; none for a condition."""
    if kind == "condition":
        return []
    return [node[1] for node in nodes_of(meant) if node[0] == "call"]


def names_asked(kind, meant):
    """The list of the names that stand behind `named`."""
    if kind == "condition":
        return condition_names(meant)
    names = []
    for node in nodes_of(meant):
        if node[0] in ASKING_KINDS:
            names.extend(condition_names(node[1]))
    return names


def exchanged_condition(condition, named):
    """The condition in which each name that is in a dict is replaced by the condition there."""
    if condition[0] == "named":
        return named.get(condition[1], condition)
    if condition[0] in ("not", "and", "or"):
        parts = [exchanged_condition(part, named) for part in condition[1:]]
        return (condition[0], *parts)
    return condition


def exchanged_program(program, named, called):
    """The program in which each name that is in one of two dicts is replaced by the condition or the program there."""
    kind = program[0]
    if kind == "call":
        return called.get(program[1], program)
    parts = [exchanged_program(part, named, called) for part in parts_of(program)]
    if kind == "block":
        return (kind, *parts)
    if kind in ASKING_KINDS:
        return (kind, exchanged_condition(program[1], named), *parts)
    return program


def exchanged(kind, meant, named, called):
    """The condition or program in which names are replaced."""
    if kind == "condition":
        return exchanged_condition(meant, named)
    return exchanged_program(meant, named, called)
