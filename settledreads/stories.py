"""Stories of works: what plans let all works read, whatever their programs are."""

from settledreads.errors import BadFirsts, BadStory, NoPart, Unlike
from settledreads.forms import is_row
from settledreads.manners import ALIKE, PLAIN_MANNERS, breaks_last, check_manner
from settledreads.plans import Plan
from settledreads.roads import Road
from settledreads.searches import is_table, search
from settledreads.tales import PlanWalk, read_story, told_event


def reads_of(plan, firsts, story):
    """The tuple of (part, number of the edition) of the reads of a story: BadFirsts, BadStory."""
    tale = read_story(Road((plan,)), firsts, story)
    return tuple([(plan.parts[part], numbers[0]) for _, part, numbers in tale.told_reads])


def keeps_all(plan, part, manner):
    """("always", table), or ("breaks", firsts, story) of fewest events: NoPart, BadManner."""
    return told_search(one_walk(plan, part, manner), "always", "breaks")


def shows_keeps_all(plan, part, manner, value):
    """Whether a value is such a result of keeps_all as is right by itself: NoPart, BadManner."""
    return is_told(one_walk(plan, part, manner), "always", "breaks", value)


def alike_all(plan, other):
    """("alike", table), or ("apart", firsts, story) of fewest events: Unlike."""
    return told_search(two_walk(plan, other), "alike", "apart")


def shows_alike_all(plan, other, value):
    """Whether a value is such a result of alike_all as is right by itself: Unlike."""
    return is_told(two_walk(plan, other), "alike", "apart", value)


def one_walk(plan, part, manner):
    """All stories of works that begin with a part: NoPart, BadManner."""
    if part not in plan.parts:
        raise NoPart(part)
    check_manner(PLAIN_MANNERS, manner)
    return PlanWalk(Road((plan,)), manner, (plan.parts.index(part),))


def two_walk(plan, other):
    """All stories, gone through by two plans: Unlike."""
    if not isinstance(other, Plan) or (plan.parts, plan.takes) != (other.parts, other.takes):
        raise Unlike(other)
    return PlanWalk(Road((plan, other)), ALIKE, tuple(range(len(plan.parts))))


def told_search(walk, kept_word, broken_word):
    """What a search tells: the table, or firsts and a story."""
    table, way = search(walk, walk.starts())
    if way is None:
        return (kept_word, table)
    standing, events = way
    openings, kept, present = standing[:3]
    story = [("begin", walk.road.part_names[openings[0][0]])]
    story.extend([told_event(walk.road, event) for event in events])
    return (broken_word, tuple([number - present for number in kept]), tuple(story))


def is_told(walk, kept_word, broken_word, value):
    """Whether a value is a closed table, or firsts and a story that break the manner."""
    if is_row(value, 2) and value[0] == kept_word:
        return is_table(walk, walk.starts(), value[1])
    if is_row(value, 3) and value[0] == broken_word:
        return is_breaking(walk, value[1], value[2])
    return False


def is_breaking(walk, firsts, story):
    """Whether the last event of a story, a read, breaks the manner, and none ahead."""
    try:
        tale = read_story(walk.road, firsts, story)
    except (BadFirsts, BadStory):
        return False
    if not story or story[-1] != ("read",) or tale.first_part not in walk.doors:
        return False
    return breaks_last(walk.aim, [(opening, numbers) for opening, _, numbers in tale.told_reads], 0)
