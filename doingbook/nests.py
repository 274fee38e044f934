"""Nests: two sets that bar a question, so that no formula in the seen shares answers it."""

from doingbook.cuts import is_within, wanted_names
from doingbook.drawings import need_sets


def is_lump_of_itself(drawing, names):
    return drawing.lumps(names) == [names]


def bars(drawing, question, inner, outer):
    need_sets(drawing, [inner, outer])
    wished = wanted_names(drawing, question)
    if len(inner) == 0 or not all([name in wished for name in inner]):
        return False
    if not is_lump_of_itself(drawing, inner) or not is_lump_of_itself(drawing, outer):
        return False
    if not is_within(inner, outer) or drawing.part(outer).ancestors(inner) != outer:
        return False
    return any([name in question[0] for name in outer])
