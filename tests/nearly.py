"""Answers that are nearly right, made from right ones."""

from definitions import HEIGHTS
from samples import HUGE, STRANGE


def nearly_heights(heights):
    """Values that differ a little from this ascending tuple of heights; some may be right, too."""
    for height in HEIGHTS:
        changed = set(heights) ^ {height}
        yield tuple(sorted(changed))
    for by in (-1, 1):
        yield tuple(height + by for height in heights)
    yield from (heights[::-1], heights + heights, heights + heights[-1:], heights[:1] + heights)
    yield from ((-1,) + heights, heights + (31,), heights + (HUGE,), (-HUGE,) + heights)
    yield from (tuple(bool(height) if height < 2 else height for height in heights), (True,) + heights[1:])
    yield from (tuple(str(height) for height in heights), heights + (None,), (None,) + heights, (heights,))
    yield from (list(heights), set(heights), frozenset(heights), iter(heights), (), heights * 1000000)
    yield from ({height: None for height in heights}, str(heights), heights[0] if heights else 0)
    yield heights[:1] + tuple(value for _, value in STRANGE)
    yield from (value for _, value in STRANGE)


def nearly_gaps(gap):
    yield from range(-31, 33)
    yield from (HUGE, -HUGE, (gap,), [gap], str(gap), bool(gap))
    yield from (value for _, value in STRANGE)


def nearly_forms(answer):
    """Values that do not have the form of this right answer."""
    yield from (list(answer), answer[1:], answer[:-1], answer + (0,), answer + answer, (answer,), answer[0])
    yield from ((answer[0].upper(),) + answer[1:], (answer[0] + " ",) + answer[1:], ("part of",) + answer[1:])
    yield from ((answer[0].encode(),) + answer[1:], (list(answer[0]),) + answer[1:], ((answer[0],),) + answer[1:])
    yield from (dict(enumerate(answer)), answer[0] * 1000, answer * 1000000)
    for _, value in STRANGE:
        yield value
        yield (value,) + answer[1:]
        yield (value,) + answer
