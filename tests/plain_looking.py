"""Plain looking through standings, whatever they are: breadth first, the greatest closed table, what comes behind some."""


def looked_through(row, behind):
    """(whether a break comes, the set of standings found till then, how many levels were gone through).

    row: what there is at first, by standings; behind: of one of them, whether a break may come next, and
    rows of (standing, what there is).
    """
    found = set(row)
    many = 0
    while row:
        later = {}
        many += 1
        for told in row.values():
            is_bad, rows = behind(told)
            if is_bad:
                return True, found, many
            later.update({standing: other for standing, other in rows if standing not in found})
        found |= set(later)
        row = later
    return False, found, many


def greatest(moves):
    """The set of standings from which no break can come, and the set of the others.

    moves: for each standing whether a break may come next, and the list of standings that come.
    """
    good = {standing for standing, (is_bad, _) in moves.items() if not is_bad}
    while True:
        worse = {standing for standing in good if any([told not in good for told in moves[standing][1]])}
        if not worse:
            return good, set(moves) - good
        good -= worse


def all_behind(standings, come):
    """All standings that come behind these, them too."""
    found = set(standings)
    row = list(found)
    while row:
        later = []
        for standing in row:
            for told in come(standing):
                if told not in found:
                    found.add(told)
                    later.append(told)
        row = later
    return found
