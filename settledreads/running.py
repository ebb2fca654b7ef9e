"""Runs of houses: what their works read, and which manners they keep."""

from settledreads.courses import one_road, read_run
from settledreads.houses import number_of_part
from settledreads.manners import MANNERS, keeps


def ran(house, part, run):
    """(reads, places) of a run: NoPart, BadRun."""
    course = read_run(house, one_road(house), number_of_part(house, part), run)
    names = house.sheet.names
    reads = [(names[place], worths[0], numbers[0]) for _, place, numbers, worths in course.told_reads]
    return tuple(reads), course.open_lines()


def kept_manners(house, part, run):
    """The ascending tuple of the manners that the work of a run keeps: NoPart, BadRun."""
    course = read_run(house, one_road(house), number_of_part(house, part), run)
    return tuple([manner for manner in MANNERS if is_kept(house.sheet, manner, course.told_reads, course.begun_by)])


def is_kept(sheet, manner, rows, begun):
    """Whether the reads of a course keep a manner."""
    if manner == "lawful":
        return are_lawful(sheet, [(place, worths[0]) for _, place, _, worths in rows])
    return keeps(manner, [(opening, numbers) for opening, _, numbers, _ in rows], begun)


def are_lawful(sheet, pairs):
    """Whether some edition has all worths of these (place of the key, worth)."""
    return any([all([edition[place] == worth for place, worth in pairs]) for edition in sheet.editions])
