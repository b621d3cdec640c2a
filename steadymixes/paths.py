"""Paths of stands, by which a label leads from each steady pair, or from the beginning, to another one."""

from steadymixes.checks import check_label, check_start
from steadymixes.corners import steady_among
from steadymixes.signs import corners_without_ties

BEGINNING = (None, None)


def parts_of(both):
    """For each side a dict of the labels of all that can be its part of a stand: its corners and None."""
    found = []
    for side, told in enumerate(both):
        labels_had = {corner: had for corner, had in told}
        labels_had[None] = tuple([(side, choice) for choice in range(len(told[0][0]))])
        found.append(labels_had)
    return found


def next_part(labels_had, part, dropped):
    """The other part that has all labels of a part but the dropped one, and the label that it has instead."""
    kept = [label for label in labels_had[part] if label != dropped]
    having = [other for other, had in labels_had.items() if all([label in had for label in kept])]
    other = [found for found in having if found != part][0]
    return other, [label for label in labels_had[other] if label not in kept][0]


def walked(parts, label, start):
    """The path of a label from a stand with all labels to the next one."""
    stand, dropped = start, label
    side = 0 if label in parts[0][stand[0]] else 1
    stands = [stand]
    while True:
        part, dropped = next_part(parts[side], stand[side], dropped)
        stand = (part, stand[1]) if side == 0 else (stand[0], part)
        stands.append(stand)
        if dropped == label:
            return stands
        # What this part got for the dropped label, the other side's part has already, and drops next.
        side = 1 - side


def end_of(parts, label, start):
    """The last stand of the path from a start; None is the beginning, as start and as end."""
    end = walked(parts, label, BEGINNING if start is None else start)[-1]
    return None if end == BEGINNING else end


def path(game, label, start):
    """The list of the stands from a start, by a dropped label, to the next one with all labels."""
    both = corners_without_ties(game)
    check_label(game, label)
    check_start(game, start)
    return walked(parts_of(both), label, BEGINNING if start is None else start)


def led(game, label, start):
    """The steady pair to which a label leads from a start, None if it is the beginning."""
    both = corners_without_ties(game)
    check_label(game, label)
    check_start(game, start)
    return end_of(parts_of(both), label, start)


def pairings(game, label):
    """The list of the (a, b) that a label leads to one another, each once, ascending by the lower one, a."""
    both = corners_without_ties(game)
    check_label(game, label)
    parts = parts_of(both)
    found, ended = [], {}
    for start in [None] + steady_among(both):
        if start not in ended:
            end = end_of(parts, label, start)
            ended[end] = True
            found.append((start, end))
    return found
