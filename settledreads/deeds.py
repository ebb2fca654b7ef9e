"""Deeds by which a newer edition comes while works go on, and what stands behind them.

The elder edition has the number OLD, the newer one NEW.
"""

from settledreads.errors import BadDeeds
from settledreads.forms import is_row

OLD = 0
NEW = 1
INSTALL = ("install",)
WAIT = ("wait",)


class Stage:
    """What stands behind some deeds: which edition is present, which the kept parts keep, which doors are open."""

    def __init__(self, present, kept, doors):
        self.present_now = present
        self.keeping_now = kept
        self.doors_open = doors

    def told(self):
        """All of it, as a tuple."""
        return self.present_now, self.keeping_now, self.doors_open


def first_stage(road, doors):
    """What stands ahead of all deeds."""
    return Stage(OLD, tuple([OLD for _ in road.keeping]), tuple([True for _ in doors]))


def behind_deed(road, doors, stage, deed):
    """The Stage behind a deed, None if this one cannot be done."""
    present, kept, are_open = stage.told()
    if is_row(deed, 1):
        if deed == WAIT:
            return stage
        return Stage(NEW, kept, are_open) if deed == INSTALL and present == OLD else None
    if not is_row(deed, 2):
        return None
    word, name = deed
    if word == "renew" and name in kept_names(road):
        place = kept_names(road).index(name)
        return Stage(present, changed(kept, place, NEW), are_open) if kept[place] != present else None
    if word in ("close", "open") and name in doors:
        place = doors.index(name)
        opens = word == "open"
        return Stage(present, kept, changed(are_open, place, opens)) if are_open[place] != opens else None
    return None


def kept_names(road):
    """The names of the kept parts, in the sequence of parts."""
    return tuple([road.part_names[part] for part in road.keeping])


def changed(row, place, value):
    """A tuple with another value in one place."""
    return (*row[:place], value, *row[place + 1:])


def all_deeds(road, doors):
    """All deeds that may be done at some stage."""
    rows = [INSTALL, WAIT]
    rows.extend([("renew", name) for name in kept_names(road)])
    rows.extend([(word, door) for door in doors for word in ("close", "open")])
    return rows


def stages_of(road, doors, deeds):
    """The stages ahead of all deeds and behind each of them: BadDeeds."""
    if not isinstance(deeds, tuple):
        raise BadDeeds(0)
    stages = [first_stage(road, doors)]
    for number, deed in enumerate(deeds):
        stage = behind_deed(road, doors, stages[-1], deed)
        if stage is None:
            raise BadDeeds(number + 1)
        stages.append(stage)
    return stages


def waits_for(road, deed, parts):
    """Whether a deed waits for a work that has these parts open."""
    if deed == WAIT:
        return True
    return deed[0] == "renew" and road.part_names.index(deed[1]) in parts
