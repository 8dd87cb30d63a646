"""Values on far rows, which are told by blocks."""

from nestsums.errors import InvalidBlocks, InvalidNumber
from nestsums.spans import Spans

MOST_DEEP = 3


def far_value(formula, blocks):
    """Return the value of a formula on the far row that is told by blocks."""
    depth = _depth_of(blocks)
    if depth > MOST_DEEP:
        raise InvalidBlocks(depth)
    _check_times(blocks)
    terms = formula.terms
    spans = Spans([word for _, word in terms])
    sums = _sums_on(spans, blocks)
    return sum([coefficient * sums[spans.place_of(word)] for coefficient, word in terms])


def _is_blocks(part):
    """Tell whether a part is a list of blocks, not a row."""
    return len(part) > 0 and isinstance(part[0], tuple)


def _depth_of(blocks):
    """Return how deep lists of blocks lie within one another."""
    depth = 1
    inner = _blocks_within([blocks])
    # Layer by layer, because blocks that lie too deep may lie very deep.
    while inner:
        depth += 1
        inner = _blocks_within(inner)
    return depth


def _blocks_within(lists):
    """Return the lists of blocks that are parts of the blocks in some lists."""
    return [part for blocks in lists for part, _ in blocks if _is_blocks(part)]


def _check_times(blocks):
    for part, times in blocks:
        if times < 0:
            raise InvalidNumber(times)
        if _is_blocks(part):
            _check_times(part)


def _sums_on(spans, part):
    """Return the sums of spans on the row that a part stands for."""
    if not _is_blocks(part):
        return spans.sums_on(part)
    sums = spans.sums_on([])
    for inner, times in part:
        repeated_sums = spans.sums_repeated(_sums_on(spans, inner), times)
        sums = spans.sums_together(sums, repeated_sums)
    return sums
