"""Coverage: whether each row of a span is in one of many spans."""

from surestreams.limits import common, is_of_words, is_void, opposite
from surestreams.regions import changed
from surestreams.spans import is_empty, is_inside, touch, without

# So many spans are subtracted one after the other; of more of them, each half of a span has fewer.
MOST_SUBTRACTED = 16


def is_covered(spans, span):
    """Returns whether each row of a span is in one of the spans."""
    if is_empty(span):
        return True
    tasks = [(span, [other for other in spans if not is_empty(other)])]
    while tasks:
        piece, others = tasks.pop()
        near = [other for other in others if touch(piece, other)]
        if not near:
            return False
        if any([is_inside(piece, other) for other in near]):
            continue
        tasks.extend([(rest, near) for rest in parts_left(piece, near)])
    return True


def parts_left(piece, near):
    """Returns parts of a piece: together, at least those rows of it that not all spans near it have."""
    halves = best_halves(piece, near) if len(near) > MOST_SUBTRACTED else []
    if halves:
        return halves
    # The span that leaves the fewest parts goes first, as each part is cut again.
    return min([without(piece, other) for other in near], key=len)


def best_halves(piece, near):
    """Returns the halves of a piece, cut at a column, that have the fewest spans near them, or []."""
    found = []
    least = 3 * len(near) // 4
    for at in range(len(piece)):
        halves = halves_at(piece, near, at)
        most = max([number_near(half, near) for half in halves], default=len(near))
        if most < least:
            found = halves
            least = most
    return found


def halves_at(piece, near, at):
    """Returns the halves, none of them empty, of a piece that is cut at a column."""
    halves = []
    for limit in middle_cut([other[at] for other in near]):
        both = common(piece[at], limit)
        if not is_void(both):
            halves.append(changed(piece, at, both))
    return halves


def middle_cut(limits):
    """Returns two limits: together, of all values, each about as far from some limits as the other."""
    if is_of_words(limits[0]):
        words = sorted({word for limit in limits for word in limit[1:]})
        half = ("in",) + tuple(words[:len(words) // 2])
        return [half, opposite(half)]
    starts = sorted([least for least, _ in limits])
    middle = starts[len(starts) // 2]
    return [(0, middle - 1), (middle, None)] if middle > 0 else [(0, 0), (1, None)]


def number_near(piece, near):
    """Returns the number of the spans that have a common row with a piece."""
    return len([other for other in near if touch(piece, other)])
