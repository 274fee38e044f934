"""Reckonings of papers and nests by the words of points 24 to 29, for several tests."""

from itertools import product

from tests.support import above, all_sets, lumps_by_words, wanted_by_words


def first_by_words(drawing, lump):
    for whole in lumps_by_words(drawing, range(drawing.count)):
        if set(lump) <= set(whole):
            return whole


def goes_by_words(drawing, stands, word, names):
    """Whether a cut is one that point 25 tells."""
    if names not in all_sets(drawing.count) or not set(names) < set(stands):
        return False
    if word == "up":
        sources = {u for u, v in drawing.ties if v in names and u in stands}
        return names != () and sources <= set(names)
    return word == "lump" and names in lumps_by_words(drawing, stands)


def lets_by_words(drawing, question, paper):
    lumps = lumps_by_words(drawing, wanted_by_words(drawing, question))
    if len(paper) != len(lumps):
        return False
    for (lump, cuts), wish in zip(paper, lumps):
        stands = first_by_words(drawing, wish)
        for word, names in cuts:
            if not goes_by_words(drawing, stands, word, names):
                return False
            stands = names
        if lump != wish or stands != wish:
            return False
    return True


def cuts_to(drawing, stands, lump):
    """Every row of cuts that leads from what stands to the lump."""
    told = [()] if stands == lump else []
    for names in all_sets(drawing.count):
        for word in ("up", "lump"):
            if set(lump) <= set(names) and goes_by_words(drawing, stands, word, names):
                told += [((word, names),) + rest for rest in cuts_to(drawing, names, lump)]
    return told


def papers_for(drawing, question, most):
    """Some papers that are let by, of many different rows of cuts."""
    lumps = lumps_by_words(drawing, wanted_by_words(drawing, question))
    rows = []
    for lump in lumps:
        cuts = sorted(cuts_to(drawing, first_by_words(drawing, lump), lump), key=lambda row: (-len(row), row))
        rows.append([(lump, row) for row in cuts[::len(cuts) // most + 1]])
    several = list(product(*rows))
    return several[::len(several) // most + 1]


def kinds_of_cuts(paper):
    return {tuple(word for word, names in cuts) for lump, cuts in paper}


def product_by_words(formulas):
    return formulas[0] if len(formulas) == 1 else ("times", product_by_words(formulas[:-1]), formulas[-1])


def formula_by_words(drawing, question, paper):
    """By point 26."""
    several = []
    for lump, cuts in paper:
        stands = first_by_words(drawing, lump)
        ahead = product_by_words(
            [("over", ("seen", tuple(range(v + 1))), ("seen", tuple(range(v)))) for v in stands]
        )
        for word, names in cuts:
            if word == "up":
                ahead = ("sum", tuple(sorted(set(stands) - set(names))), ahead)
            else:
                begins = {0: ("one",), len(stands): ahead}
                for i in range(1, len(stands)):
                    begins[i] = ("sum", stands[i:], ahead)
                picked = [i for i in range(1, len(stands) + 1) if stands[i - 1] in names]
                ahead = product_by_words([("over", begins[i], begins[i - 1]) for i in picked])
            stands = names
        several.append(ahead)
    rest = tuple(sorted(set(wanted_by_words(drawing, question)) - set(question[1])))
    return ("sum", rest, product_by_words(several)) if rest else product_by_words(several)


def nest_conditions(drawing, question, inner, outer):
    """Each condition of point 29, by its words."""
    within = tuple(tie for tie in drawing.ties if set(tie) <= set(outer))
    return {
        "inner isn't empty": inner != (),
        "all its names are wanted": set(inner) <= set(wanted_by_words(drawing, question)),
        "inner is one lump": lumps_by_words(drawing, inner) == [inner],
        "outer is one lump": lumps_by_words(drawing, outer) == [outer],
        "inner's names are among outer's": set(inner) <= set(outer),
        "outer has others besides": bool(set(outer) - set(inner)),
        "outer's names are ancestors of inner": set(outer) <= set(above(within, inner)),
        "outer has a name that is set": bool(set(outer) & set(question[0])),
    }
