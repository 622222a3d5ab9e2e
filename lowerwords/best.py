"""The falling choices with the greatest least weight of each size."""

from lowerwords.errors import EmptyChoice
from lowerwords.heaps import all_heaps, check_number
from lowerwords.leasts import least_count, least_weight
from lowerwords.staircases import all_falling


def best_choice(letters, size):
    """The best falling choice of a size: Best(weight, many, choice)."""
    check_number(size, len(all_heaps(letters)))
    if size == 0:
        raise EmptyChoice()
    return _best_of([choice for choice in all_falling(letters) if choice.size == size])


def _best_of(choices):
    """The first choice of those with the fewest least words among those with the greatest least weight."""
    best = min(choices, key=lambda choice: (-least_weight(choice), least_count(choice)))
    return Best(least_weight(best), least_count(best), best)


def best_row(letters):
    """The best choices of the sizes from 1 on, ascending."""
    return tuple([best_choice(letters, size) for size in range(1, len(all_heaps(letters)) + 1)])


class Best:
    """The best choice of a size, its least weight and how many least words it has."""

    def __init__(self, weight, many, choice):
        self.weight = weight
        self.many = many
        self.choice = choice

    def __eq__(self, other):
        return (
            isinstance(other, Best)
            and self.weight == other.weight
            and self.many == other.many
            and self.choice == other.choice
        )
