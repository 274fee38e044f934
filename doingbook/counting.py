"""Ways in which several things have values, each from 0 to its size - 1: tuples, the last value running fastest."""


def ways_with(sizes, fixed):
    told = [()]
    for place, size in enumerate(sizes):
        choices = [fixed[place]] if place in fixed else list(range(size))
        longer = []
        for way in told:
            longer.extend([way + (value,) for value in choices])
        told = longer
    return told


def all_ways(sizes):
    return ways_with(sizes, {})


def place_of(way, sizes):
    place = 0
    for value, size in zip(way, sizes):
        place = place * size + value
    return place


def product(numbers):
    told = 1
    for number in numbers:
        told = told * number
    return told
