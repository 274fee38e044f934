"""Reckonings of formulas and texts by the words of points 22, 23, 45 and 46, and formulas to ask about, for several
tests."""

from fractions import Fraction

from tests.support import all_sets, all_values, summed_where

ONE = ("one",)
LETTERS = "abcdef"


def seen(*names):
    return ("seen", names)


def open_by_words(formula):
    word = formula[0]
    if word == "one":
        return set()
    if word == "seen":
        return set(formula[1])
    if word == "sum":
        return open_by_words(formula[2]) - set(formula[1])
    return open_by_words(formula[1]) | open_by_words(formula[2])


def worth_by_words(formula, sizes, table, values):
    """By point 23; a quotient by 0 raises ZeroDivisionError."""
    word = formula[0]
    if word == "one":
        return Fraction(1)
    if word == "seen":
        return summed_where(table, {name: values[name] for name in formula[1]})
    if word == "sum":
        ways = all_values([sizes[name] for name in formula[1]])
        inner = [worth_by_words(formula[2], sizes, table, {**values, **dict(zip(formula[1], way))}) for way in ways]
        return sum(inner, start=Fraction(0))
    a = worth_by_words(formula[1], sizes, table, values)
    b = worth_by_words(formula[2], sizes, table, values)
    return a * b if word == "times" else a / b


def strewn_formula(chance, count, depth):
    names = all_sets(count)
    words = ("times", "over", "sum", "sum", "seen", "one") if depth > 1 else ("seen", "seen", "one")
    word = chance.choice(words)
    if word == "one":
        return ONE
    if word == "seen":
        return ("seen", chance.choice(names))
    if word == "sum":
        return ("sum", chance.choice(names[1:]), strewn_formula(chance, count, depth - 1))
    return (word, strewn_formula(chance, count, depth - 1), strewn_formula(chance, count, depth - 1))


def flat_product(parts):
    """The product of many formulas, put together two by two so that it isn't deep."""
    if len(parts) == 1:
        return parts[0]
    half = len(parts) // 2
    return ("times", flat_product(parts[:half]), flat_product(parts[half:]))


def as_fractions(table):
    return {values: Fraction(*entry) for values, entry in table.items()}


def drawing_text_by_words(drawing):
    """By point 45."""
    told = f"{drawing.count}:"
    for u, v in drawing.ties:
        told += f" {LETTERS[u]}>{LETTERS[v]}"
    for u, v in drawing.bows:
        told += f" {LETTERS[u]}~{LETTERS[v]}"
    return told


def formula_text_by_words(formula):
    """By point 46."""
    match formula:
        case ("one",):
            return "1"
        case ("seen", names):
            return "P(" + " ".join(LETTERS[name] for name in names) + ")"
        case ("times", a, b):
            return f"({formula_text_by_words(a)} * {formula_text_by_words(b)})"
        case ("over", a, b):
            return f"({formula_text_by_words(a)} / {formula_text_by_words(b)})"
        case ("sum", names, a):
            return "sum(" + " ".join(LETTERS[name] for name in names) + ": " + formula_text_by_words(a) + ")"
