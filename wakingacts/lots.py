"""Lots of numbers: ascending tuples, ordered by how many there are, then as tuples."""


def lots_of_size(numbers, size):
    """All lots of so many of these numbers, which ascend, in order."""
    lots = [()]
    for _ in range(size):
        lots = [(*lot, number) for lot in lots for number in numbers if not lot or lot[-1] < number]
    return lots


def all_lots(numbers):
    """All lots of these numbers, which ascend, in order."""
    return [lot for size in range(len(numbers) + 1) for lot in lots_of_size(numbers, size)]


def is_part(lot, other):
    """Whether all of the first lot is in the second one."""
    return all([number in other for number in lot])


def least_lots(numbers, most, is_one):
    """The lots of at most so many of these numbers for which this function is true, without those with such a part."""
    found = []
    for size in range(most + 1):
        for lot in lots_of_size(numbers, size):
            if not any([is_part(other, lot) for other in found]) and is_one(lot):
                found = found + [lot]
    return tuple(found)
