"""Thinning: formulas made shorter or plainer, step by step, without a change of what they are worth."""

from doingbook.barred import barred
from doingbook.drawings import without
from doingbook.errors import NoThinning
from doingbook.formulas import open_names, parts_of

ONE = ("one",)
MOST_THINNINGS = 400


def has_all(names, others):
    return len(without(others, names)) == 0


def is_share_given(formula):
    return formula[0] == "over" and formula[1][0] == "seen" and formula[2][0] == "seen"


# Each of these tells what comes of a formula by one word, None where the word doesn't go.
def by_gather(formula):
    if formula[0] != "sum" or formula[2][0] != "seen" or not has_all(formula[2][1], formula[1]):
        return None
    return ("seen", without(formula[2][1], formula[1]))


def by_all(formula):
    if formula[0] != "sum" or not is_share_given(formula[2]):
        return None
    seen = formula[2][1][1]
    if not has_all(seen, formula[1]) or formula[2][2][1] != without(seen, formula[1]):
        return None
    return ONE


def by_one(formula):
    if formula[0] == "times" and formula[1] == ONE:
        return formula[2]
    if (formula[0] == "times" or formula[0] == "over") and formula[2] == ONE:
        return formula[1]
    return ONE if formula == ("seen", ()) else None


def by_same(formula):
    return ONE if formula[0] == "over" and formula[1] == formula[2] else None


def is_over_by(formula, below):
    return formula[0] == "over" and formula[2] == below


def by_back(formula):
    if formula[0] != "times":
        return None
    if is_over_by(formula[1], formula[2]):
        return formula[1][1]
    return formula[2][1] if is_over_by(formula[2], formula[1]) else None


def by_out(formula):
    if formula[0] != "sum" or formula[2][0] != "times":
        return None
    free = open_names(formula[2][1])
    if any([name in free for name in formula[1]]):
        return None
    return ("times", formula[2][1], ("sum", formula[1], formula[2][2]))


def by_barred(drawing, formula, names):
    if not is_share_given(formula) or len(names) == 0:
        return None
    seen = formula[1][1]
    given = formula[2][1]
    left = without(given, names)
    others = without(seen, given)
    if not has_all(given, names) or not has_all(seen, given) or len(left) == 0 or len(others) == 0:
        return None
    if not barred(drawing, others, names, left)[0]:
        return None
    return ("over", ("seen", without(seen, names)), ("seen", left))


SHORTER = {"gather": by_gather, "all": by_all, "one": by_one, "same": by_same, "back": by_back}


def by_word(drawing, formula, word, names):
    if word == "barred":
        return by_barred(drawing, formula, names)
    if len(names) > 0:
        return None
    if word == "out":
        return by_out(formula)
    return SHORTER[word](formula) if word in SHORTER else None


def with_part(formula, number, part):
    if formula[0] == "sum":
        return ("sum", formula[1], part)
    return (formula[0], part, formula[2]) if number == 0 else (formula[0], formula[1], part)


def put_at(drawing, formula, place, word, names):
    if len(place) == 0:
        return by_word(drawing, formula, word, names)
    parts = parts_of(formula)
    number = place[0]
    if number < 0 or number >= len(parts):
        return None
    part = put_at(drawing, parts[number], place[1:], word, names)
    return with_part(formula, number, part) if part is not None else None


def outcome(drawing, formula, thinning):
    drawing.need_set(thinning[2])
    return put_at(drawing, formula, thinning[0], thinning[1], thinning[2])


def goes(drawing, formula, thinning):
    return outcome(drawing, formula, thinning) is not None


def after(drawing, formula, thinning):
    told = outcome(drawing, formula, thinning)
    if told is None:
        raise NoThinning("this thinning doesn't go")
    return told


def shorter_words(formula):
    return [word for word in SHORTER if SHORTER[word](formula) is not None]


# From the inside outwards: what a word makes of a formula is one of the parts within, thinned already, or a seen share
# or one. So no place within has to be looked at again, and all places stay those of the formula handed in.
class Thinner:
    def __init__(self):
        self.thinnings = []

    def shorten(self, formula, place):
        told = formula
        words = shorter_words(told)
        while len(words) > 0 and len(self.thinnings) < MOST_THINNINGS:
            self.thinnings.append((place, words[0], ()))
            told = SHORTER[words[0]](told)
            words = shorter_words(told)
        return told

    def thin(self, formula, place):
        told = formula
        for number, part in enumerate(parts_of(formula)):
            told = with_part(told, number, self.thin(part, place + (number,)))
        return self.shorten(told, place)


def thinned(drawing, formula):
    thinner = Thinner()
    told = thinner.thin(formula, ())
    return (told, thinner.thinnings)
