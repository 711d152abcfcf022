"""How often values stand in a list."""


def tally(values):
    """The different values, each with the number of times that it stands in the list."""
    numbers = {}
    for value in values:
        numbers[value] = numbers.get(value, 0) + 1
    return numbers


def odd_ones(values):
    """The ascending list of the values that stand in the list an odd number of times."""
    numbers = tally(values)
    return sorted([value for value in numbers if numbers[value] % 2 == 1])
