"""Packing: the fewest words for given steps."""


def packed_words(steps):
    """As few words as possible for the steps, as a list."""
    # For each stretch of the steps, by its start and its end, the fewest words of it.
    fewest = {}
    for size in range(1, len(steps) + 1):
        for start in range(len(steps) - size + 1):
            fewest[start, start + size] = _best(steps, start, start + size, fewest)
    return fewest.get((0, len(steps)), [])


def _best(steps, start, end, fewest):
    """The fewest words from a start to an end, where those of all that is shorter are known."""
    size = end - start
    if steps[start:end] == steps[start] * size:
        return [steps[start] if size == 1 else f"{steps[start]}{size}"]
    best = _best_of_two(start, end, fewest)
    for unit in range(1, size // 2 + 1):
        inner = fewest[start, start + unit]
        if len(inner) + 2 < len(best) and _repeats(steps[start:end], unit):
            best = ["("] + inner + [f"){size // unit}"]
    return best


def _best_of_two(start, end, fewest):
    """The fewest words if those of a first half and those of a second one are put together."""
    best = start + 1
    for middle in range(start + 2, end):
        many = len(fewest[start, middle]) + len(fewest[middle, end])
        if many < len(fewest[start, best]) + len(fewest[best, end]):
            best = middle
    return fewest[start, best] + fewest[best, end]


def _repeats(steps, unit):
    """Whether the steps are their first ones, so many, again and again."""
    return len(steps) % unit == 0 and steps == steps[:unit] * (len(steps) // unit)
