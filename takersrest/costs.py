"""Cost tables: one row for each thing, with its costs at the loads 1, 2, .. up to the room."""

from takersrest.errors import BadRow, FallingCosts


def make_costs(rows, room):
    """Return the cost table with these rows. Raises BadRow and FallingCosts with the first wrong thing."""
    for thing, row in enumerate(rows):
        if len(row) != room:
            raise BadRow(thing)
        if any(row[at] < row[at - 1] for at in range(1, room)):
            raise FallingCosts(thing)
    return tuple([tuple(row) for row in rows])


def straight_costs(rates, room):
    """Return the cost table with the cost rate * k + base at the load k."""
    return tuple([tuple([rate * load + base for load in range(1, room + 1)]) for rate, base in rates])


def cost_at(costs, thing, load):
    """Return the cost of the thing at a load of at least 1."""
    return costs[thing][load - 1]
