"""All steady pairs as blocks, and the islands in which blocks hang together."""

from steadymixes.checks import check_game, check_index, check_mixes_of_both, check_pair, check_steady
from steadymixes.corners import both_corners, flat_among, labels_of, partners, steady_among, weights_between
from steadymixes.plays import height_over
from steadymixes.ratios import extremes


def in_common(told, others):
    """Those of some places that are among others, too."""
    return tuple([place for place in told if place in others])


def shared_places(all_places):
    """What some of the tuples of places have in common, each once, without what is empty."""
    found = {}
    for places in all_places:
        smaller = [in_common(told, places) for told in found]
        for told in [places] + smaller:
            if told:
                found[told] = True
    return list(found)


def blocks_among(both):
    """The ascending list of all blocks, of the corners of both sides."""
    ones, others = both
    all_places = partners(both)
    # The others of a block are all that its ones have in common as partners, and its ones all that have these.
    found = []
    for shared in shared_places(all_places):
        having = tuple([at for at, places in enumerate(all_places) if in_common(shared, places) == shared])
        found.append((having, shared))
    # The corners of each side ascend, so blocks compare as the places of their corners do.
    blocks_told = []
    for having, shared in sorted(found):
        blocks_told.append((tuple([ones[at][0] for at in having]), tuple([others[at][0] for at in shared])))
    return blocks_told


def indexes_of(game, both, told, one, other):
    """The indexes of those of the told blocks that a steady pair is one of.

    A mix is a mean of the corners that have all its labels, and of no corners without one of these.
    """
    ones = flat_among(both[0], labels_of(game, 0, one))
    others = flat_among(both[1], labels_of(game, 1, other))
    found = []
    for index, (block_ones, block_others) in enumerate(told):
        if all([corner in block_ones for corner in ones]) and all([corner in block_others for corner in others]):
            found.append(index)
    return tuple(found)


def hang_together(block, other_block):
    """Whether two blocks have a corner of each side in common, and so a pair."""
    return all([in_common(mine, theirs) != () for mine, theirs in zip(block, other_block)])


def islands_among(told):
    """The ascending list of the islands of the told blocks: the ascending lists of their indexes."""
    found = []
    for index, block in enumerate(told):
        joined, apart = [index], []
        for island in found:
            if any([hang_together(told[at], block) for at in island]):
                joined.extend(island)
            else:
                apart.append(island)
        found = apart + [sorted(joined)]
    return sorted(found)


def block_at(game, index):
    """A block by its index, with the checks of a game and of an index of its blocks."""
    check_game(game)
    told = blocks_among(both_corners(game))
    check_index(index, len(told))
    return told[index]


def steady_corners(game):
    """The ascending list of the steady pairs of corners."""
    check_game(game)
    return steady_among(both_corners(game))


def blocks(game):
    """The ascending list of all blocks of a game."""
    check_game(game)
    return blocks_among(both_corners(game))


def blocks_of(game, one, other):
    """The ascending tuple of the indexes of the blocks that a steady pair is one of."""
    check_pair(game, one, other)
    check_steady(game, one, other)
    both = both_corners(game)
    return indexes_of(game, both, blocks_among(both), one, other)


def block_weights(game, index, one, other):
    """The weights of a block's ones and others by which a pair is one of the block's, None if it is none."""
    ones, others = block_at(game, index)
    check_mixes_of_both(game, one, other)
    first = weights_between(ones, one)
    second = weights_between(others, other)
    return None if first is None or second is None else (first, second)


def islands(game):
    """The ascending list of the islands of a game, each the ascending list of the indexes of its blocks."""
    check_game(game)
    return islands_among(blocks_among(both_corners(game)))


def gets_of(game, index):
    """For each side the least and the greatest that it gets by the pairs of a block."""
    ones, others = block_at(game, index)
    # By a steady pair a side gets the height over the other's mix, which over a block changes evenly.
    first = extremes([height_over(game, 1, other) for other in others])
    second = extremes([height_over(game, 0, one) for one in ones])
    return first, second
