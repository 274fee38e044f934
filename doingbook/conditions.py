"""Questions under conditions: what comes of setting some names where others are seen to have some values."""

from doingbook.cuts import formula_of
from doingbook.drawings import together, without
from doingbook.errors import NoFormula
from doingbook.finder import comes
from doingbook.rules import joins, need_statement


def free_names(drawing, asked, setnames, seen):
    return [z for z in seen if joins(drawing, 2, (asked, setnames, without(seen, (z,))), (z,))[0]]


def moved_over(drawing, statement):
    asked = statement[0]
    setnames = statement[1]
    seen = statement[2]
    free = free_names(drawing, asked, setnames, seen)
    while len(free) > 0:
        setnames = together(setnames, (free[0],))
        seen = without(seen, (free[0],))
        free = free_names(drawing, asked, setnames, seen)
    return (setnames, seen)


def joint_question(asked, setnames, seen):
    return (setnames, together(asked, seen))


def comes_given(drawing, statement):
    need_statement(drawing, statement)
    end = moved_over(drawing, statement)
    told = comes(drawing, joint_question(statement[0], end[0], end[1]))
    if told[0] == "formula":
        return ("quotient", end[0], end[1], told[1])
    return ("joint", end[0], end[1], told[1], told[2])


def formula_given(drawing, statement):
    told = comes_given(drawing, statement)
    if told[0] == "joint":
        raise NoFormula("a nest bars the question of the asked and the seen names together")
    both = formula_of(drawing, joint_question(statement[0], told[1], told[2]), told[3])
    return ("over", both, ("sum", statement[0], both))
