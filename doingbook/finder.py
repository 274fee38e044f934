"""The finder: for a question a paper of cuts that is let by, or a nest that bars it."""

from doingbook.cuts import first_lump, lump_around, wanted


def cuts_towards(drawing, lump):
    # What stands is cut to the lump's ancestors within it and to their lump around it, in turn. Where all of what
    # stands are such ancestors it has a set name: else all of it would be wanted, and the lump no whole wanted lump.
    stands = first_lump(drawing, lump)
    above = drawing.part(stands).ancestors(lump)
    cuts = []
    while above != stands:
        cuts.append(("up", above))
        stands = lump_around(drawing, above, lump)
        if stands != above:
            cuts.append(("lump", stands))
        above = drawing.part(stands).ancestors(lump)
    return (tuple(cuts), stands)


def comes(drawing, question):
    rows = []
    for lump in wanted(drawing, question)[1]:
        led = cuts_towards(drawing, lump)
        if led[1] != lump:
            return ("nest", lump, led[1])
        rows.append((lump, led[0]))
    return ("formula", tuple(rows))
