"""Plans: the order and the ways that end soonest."""

from ballastway.fractions import less
from ballastway.shapes import day_of_shape, end_of, shapes_of


def plan_of(road, carts):
    best = None
    for shape in shapes_of(road, carts):
        trips = day_of_shape(road, carts, shape)
        end = end_of(trips)
        # Only one that ends sooner takes the place, so of alike ones the first stays.
        if best is None or less(end, best[0]):
            best = (end, shape, trips)
    return best
