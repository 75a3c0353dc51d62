"""Upkeep: jobs of one night each, within windows, in the rooms that are free."""

from heapq import heappop, heappush

from keptnights.checks import are_between
from keptnights.loads import load_row, sums_before
from keptnights.spans import arrival_order, has_night


def upkeep_plan(counts, jobs):
    """A night for each job, the jobs with the earliest ends first, None if there is no plan."""
    plan = [0] * len(jobs)
    order = arrival_order(jobs)
    begun = 0
    waiting = []
    for night in range(len(counts)):
        while begun < len(order) and jobs[order[begun]][0] <= night:
            heappush(waiting, (jobs[order[begun]][1], order[begun]))
            begun = begun + 1
        many = min(counts[night], len(waiting))
        for _ in range(many):
            leave, index = heappop(waiting)
            if leave <= night:
                return None
            plan[index] = night
    return tuple(plan) if begun == len(order) and len(waiting) == 0 else None


def latest_plan(counts, jobs):
    """A night for each job from the last night back, the jobs with the latest first nights first."""
    many = len(counts)
    # Read backwards, the latest first nights are the earliest ends.
    found = upkeep_plan(counts[::-1], [(many - leave, many - first) for first, leave in jobs])
    return None if found is None else tuple([many - 1 - night for night in found])


def is_upkeep_plan(counts, jobs, plan):
    """Whether any value is a night for each job within its window, no more than free rooms."""
    if not are_between(plan, len(jobs), 0, len(counts) - 1):
        return False
    if not all([has_night(job, night) for job, night in zip(jobs, plan)]):
        return False
    done = [0] * len(counts)
    for night in plan:
        done[night] += 1
    return all([done[night] <= counts[night] for night in plan])


def is_upkeep_bar(counts, jobs, span):
    """Whether more windows lie within a span than it has free rooms."""
    within = [job for job in jobs if span[0] <= job[0] and job[1] <= span[1]]
    return len(within) > sum(counts[span[0]:span[1]])


def excesses(sums, ends, first):
    """For a first night the pairs (end, windows within less free rooms), by ascending ends.

    The ends are pairs (end, first night of the window), ascending.
    """
    found = []
    for end, begun in ends:
        if begun >= first:
            found.append((end, len(found) + 1 - sums[end] + sums[first]))
    return found


def first_nights(jobs):
    """The first nights of the windows, ascending, each once."""
    return sorted(list({job[0]: True for job in jobs}))


def upkeep_bar(counts, jobs):
    """The first span, by first night, then by end, that bars the jobs, or None."""
    sums = sums_before(counts)
    ends = sorted([(leave, first) for first, leave in jobs])
    for first in first_nights(jobs):
        for end, excess in excesses(sums, ends, first):
            if excess > 0:
                return (first, end)
    return None


def spare_nights(counts, jobs):
    """The nights with a free room that can be sold so that all jobs can still be done."""
    sums = sums_before(counts)
    ends = sorted([(leave, first) for first, leave in jobs])
    # A span with as many windows within as free rooms needs them all.
    tight = []
    for first in first_nights(jobs):
        found = excesses(sums, ends, first)
        if any([excess > 0 for _, excess in found]):
            return ()
        full = [end for end, excess in found if excess == 0]
        if len(full) > 0:
            tight.append((first, full[-1]))
    needed = load_row(tight, 0, len(counts))
    return tuple([night for night in range(len(counts)) if counts[night] > 0 and needed[night] == 0])
