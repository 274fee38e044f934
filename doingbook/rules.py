"""Three rules that join statements on set and seen names, and chains of steps by these rules."""

from doingbook.barred import barred, is_shut
from doingbook.drawings import is_set, names_up_to, need_apart, need_sets, together, without
from doingbook.errors import BadStep, NoRule, NoSets

# The places of a statement's sets, and a place for the names that stand in none of them.
ASKED = 0
SET = 1
SEEN = 2
NOWHERE = 3

# From which of these places to which the way "more" of each rule takes its names; "less" takes them back.
MORE = {1: (3, 2), 2: (2, 1), 3: (3, 1)}


def need_statement(drawing, statement):
    need_sets(drawing, statement)
    need_apart(statement)
    if len(statement[ASKED]) == 0:
        raise NoSets("a statement speaks of at least one asked name")


def given_by(statement):
    return together(statement[SET], statement[SEEN])


def rule_drawing(drawing, number, statement, names):
    cut = drawing.cut_in(statement[SET])
    if number == 1:
        return cut
    if number == 2:
        return cut.cut_out(names)
    return cut.cut_in(without(names, cut.ancestors(statement[SEEN])))


def joins(drawing, number, statement, names):
    need_sets(drawing, statement + (names,))
    if number not in MORE:
        raise NoRule("the rules are 1, 2 and 3")
    need_apart(statement + (names,))
    # That nothing is asked, or that there are no names, is refused with NoSets by barred itself.
    return barred(rule_drawing(drawing, number, statement, names), statement[ASKED], names, given_by(statement))


def move_of(number, way):
    if number not in MORE or way not in ("more", "less"):
        return None
    move = MORE[number]
    return move if way == "more" else (move[1], move[0])


def four_sets(drawing, statement):
    named = statement[ASKED] + given_by(statement)
    return statement + (without(names_up_to(drawing.count), named),)


def can_move(drawing, statement, step):
    names = step[1]
    move = move_of(step[0], step[2])
    if move is None or len(names) == 0 or not is_set(drawing.count, names):
        return False
    stand = four_sets(drawing, statement)[move[0]]
    return all([name in stand for name in names])


def left_without(statement, names):
    return tuple([without(part, names) for part in statement])


def is_good(drawing, statement, step):
    if not can_move(drawing, statement, step):
        return False
    names = step[1]
    base = left_without(statement, names)
    cut = rule_drawing(drawing, step[0], base, names)
    return is_shut(cut, base[ASKED], names, given_by(base), step[3])


def moved(statement, step):
    parts = list(left_without(statement, step[1])) + [()]
    goal = move_of(step[0], step[2])[1]
    parts[goal] = together(parts[goal], step[1])
    return tuple(parts[:NOWHERE])


def end_of(drawing, statement, chain):
    need_statement(drawing, statement)
    stands = statement
    for at, step in enumerate(chain):
        if not is_good(drawing, stands, step):
            raise BadStep(at)
        stands = moved(stands, step)
    return stands
