"""Doors: sets of names by which what comes of setting others is read off at once."""

from doingbook.barred import barred, need_barring
from doingbook.cuts import sum_formula
from doingbook.drawings import names_up_to, together, without
from doingbook.errors import NoDoor, NoSets


def is_back_door(drawing, one, other, door):
    need_barring(drawing, one, other, door)
    below = drawing.descendants(one)
    if any([name in below for name in door]):
        return False
    return barred(drawing.cut_out(one), one, other, door)[0]


def stops_roads_down(drawing, one, other, door):
    left = without(names_up_to(drawing.count), door)
    below = drawing.part(left).descendants(one)
    return not any([name in below for name in other])


def is_front_door(drawing, one, other, door):
    need_barring(drawing, one, other, door)
    if not stops_roads_down(drawing, one, other, door):
        return False
    if len(door) == 0:
        return True
    return barred(drawing.cut_out(one), one, door, ())[0] and barred(drawing.cut_out(door), door, other, one)[0]


def sets_within(names):
    told = [()]
    for name in names:
        told = told + [part + (name,) for part in told]
    return sorted(told, key=lambda part: (len(part), part))


def has_one_within(names, doors):
    return any([len(without(door, names)) == 0 for door in doors])


def least_doors(drawing, one, other, is_door):
    need_barring(drawing, one, other, ())
    told = []
    # Shorter sets come first, so a smaller door within a set has been met ahead of it, or one that lies within that.
    for names in sets_within(without(names_up_to(drawing.count), one + other)):
        if not has_one_within(names, told) and is_door(drawing, one, other, names):
            told.append(names)
    return told


def back_doors(drawing, one, other):
    return least_doors(drawing, one, other, is_back_door)


def front_doors(drawing, one, other):
    return least_doors(drawing, one, other, is_front_door)


def share_given(names, given):
    return ("over", ("seen", together(names, given)), ("seen", given))


def back_formula(drawing, one, other, door):
    if not is_back_door(drawing, one, other, door):
        raise NoDoor("this set is no back door")
    return sum_formula(door, ("times", share_given(other, together(one, door)), ("seen", door)))


def front_formula(drawing, one, other, door):
    need_barring(drawing, one, other, door)
    if len(one) > 1:
        raise NoSets("the formula of a front door is there for one set name alone")
    if not is_front_door(drawing, one, other, door):
        raise NoDoor("this set is no front door")
    behind = ("sum", one, ("times", share_given(other, together(one, door)), ("seen", one)))
    return sum_formula(door, ("times", share_given(door, one), behind))
