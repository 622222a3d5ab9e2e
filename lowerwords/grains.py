"""The greatest number that divides the weights of all words of a code."""

from lowerwords.choices import check_some
from lowerwords.heaps import count_ones


def grain_of(choice):
    """The grain of the code, and the first family of one or two heaps that shows it: Grain(divisor, heaps)."""
    check_some(choice)
    families = [(heap,) for heap in choice]
    families = families + [(heap, other) for heap in choice for other in choice if heap < other]
    # Of equally good families the first one is taken, so single heaps go before pairs.
    least = min(families, key=lambda family: _exponent(choice.letters, family))
    return Grain(1 << _exponent(choice.letters, least), least)


def _exponent(letters, family):
    """How often 2 divides what the family alone gives to the weight of the sum of its words."""
    union = 0
    for heap in family:
        union = union | heap
    return len(family) - 1 + letters - count_ones(union)


class Grain:
    """The grain of a code, and heaps whose words have a sum with an odd multiple of it as its weight."""

    def __init__(self, divisor, heaps):
        self.divisor = divisor
        self.heaps = heaps

    def __eq__(self, other):
        return isinstance(other, Grain) and self.divisor == other.divisor and self.heaps == other.heaps
