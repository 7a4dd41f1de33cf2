"""Duels: one side tells a task, the other picks an option of it, and any place of the option may come.

A duel is an object with `tasks_at(place)`, the list of the tasks that can be told at a place. A task
is a list of options, and an option a list of places. The picking side has lost where a task has no
option at all: so a place where it has lost already has the one task `[]`.
"""


def is_held(duel, start):
    """Whether the picking side never loses from the place `start` on."""
    tasks = reached_tasks(duel, start)
    return start not in beaten_places(tasks)


def reached_tasks(duel, start):
    """The tasks of each place that any options lead to from `start`."""
    tasks = {}
    found = [start]
    while found:
        place = found.pop()
        if place not in tasks:
            tasks[place] = duel.tasks_at(place)
            found.extend([after for options in tasks[place] for afters in options for after in afters])
    return tasks


def beaten_places(tasks):
    """The places, as a dict of True, at which the telling side can make the other one lose.

    Each option that fails is counted once, so the work grows with the options, not with the rounds.
    """
    uses = option_uses(tasks)
    left = {(place, task): len(options) for place in tasks for task, options in enumerate(tasks[place])}
    beaten = {place: True for place in tasks if [] in tasks[place]}
    waiting = list(beaten)
    failed = {}
    while waiting:
        lost = waiting.pop()
        for use in uses[lost]:
            if use not in failed:
                failed[use] = True
                place, task, _ = use
                left[place, task] = left[place, task] - 1
                if left[place, task] == 0 and place not in beaten:
                    beaten[place] = True
                    waiting.append(place)
    return beaten


def option_uses(tasks):
    """For each place, where it may come: triples of a place, a task's number and an option's number."""
    uses = {}
    for place in tasks:
        uses[place] = []
    for place in tasks:
        for task, options in enumerate(tasks[place]):
            for option, afters in enumerate(options):
                for after in afters:
                    uses[after].append((place, task, option))
    return uses
