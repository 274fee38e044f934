"""Questions, the cuts that lead to their wanted lumps, and the formulas of papers made of such cuts."""

from doingbook.drawings import is_set, names_up_to, need_apart, need_sets, without
from doingbook.errors import BadPaper, NoSets


def need_question(drawing, question):
    need_sets(drawing, [question[0], question[1]])
    need_apart([question[0], question[1]])
    if len(question[1]) == 0:
        raise NoSets("a question asks for at least one name")


def wanted_names(drawing, question):
    need_question(drawing, question)
    left = without(names_up_to(drawing.count), question[0])
    return drawing.part(left).ancestors(question[1])


def wanted(drawing, question):
    names = wanted_names(drawing, question)
    return (names, drawing.lumps(names))


def is_within(names, stands):
    return len(names) < len(stands) and all([name in stands for name in names])


def has_its_sources(drawing, names, stands):
    for name in names:
        if any([source in stands and source not in names for source in drawing.sources(name)]):
            return False
    return True


def is_up_cut(drawing, stands, names):
    if len(names) == 0 or not is_set(drawing.count, names) or not is_within(names, stands):
        return False
    return has_its_sources(drawing, names, stands)


def is_lump_cut(drawing, stands, names):
    return names in drawing.lumps(stands) and is_within(names, stands)


def is_cut(drawing, stands, cut):
    if cut[0] == "up":
        return is_up_cut(drawing, stands, cut[1])
    if cut[0] == "lump":
        return is_lump_cut(drawing, stands, cut[1])
    return False


def lump_around(drawing, names, lump):
    return [whole for whole in drawing.lumps(names) if lump[0] in whole][0]


def first_lump(drawing, lump):
    return lump_around(drawing, names_up_to(drawing.count), lump)


def lead_to(drawing, lump, cuts):
    stands = first_lump(drawing, lump)
    for cut in cuts:
        if not is_cut(drawing, stands, cut):
            return False
        stands = cut[1]
    return stands == lump


def lets(drawing, question, paper):
    lumps = wanted(drawing, question)[1]
    if [row[0] for row in paper] != lumps:
        return False
    return all([lead_to(drawing, row[0], row[1]) for row in paper])


def product_formula(formulas):
    told = formulas[0]
    for formula in formulas[1:]:
        told = ("times", told, formula)
    return told


def sum_formula(names, formula):
    return ("sum", names, formula) if len(names) > 0 else formula


def first_formula(stands):
    seen = [("seen", names_up_to(count)) for count in range(stands[-1] + 2)]
    return product_formula([("over", seen[name + 1], seen[name]) for name in stands])


def begin_formula(stands, count, ahead):
    return ("one",) if count == 0 else sum_formula(stands[count:], ahead)


def lump_formula(stands, names, ahead):
    begins = [begin_formula(stands, count, ahead) for count in range(len(stands) + 1)]
    places = [place for place, name in enumerate(stands) if name in names]
    return product_formula([("over", begins[place + 1], begins[place]) for place in places])


def cut_formula(drawing, lump, cuts):
    stands = first_lump(drawing, lump)
    told = first_formula(stands)
    for cut in cuts:
        if cut[0] == "up":
            told = sum_formula(without(stands, cut[1]), told)
        else:
            told = lump_formula(stands, cut[1], told)
        stands = cut[1]
    return told


def formula_of(drawing, question, paper):
    if not lets(drawing, question, paper):
        raise BadPaper("the cuts of this paper don't lead to the wanted lumps")
    told = product_formula([cut_formula(drawing, row[0], row[1]) for row in paper])
    return sum_formula(without(wanted_names(drawing, question), question[1]), told)
