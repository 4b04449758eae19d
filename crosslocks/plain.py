"""What the other files share: kinds of values told apart, copies of what is handed in, rows of whole numbers."""


def is_number(thing):
    """Python takes True and False for whole numbers; here they aren't."""
    return isinstance(thing, int) and not isinstance(thing, bool)


def is_number_from(thing, least):
    return is_number(thing) and thing >= least


def is_place(thing, many):
    """Whether a thing is the place of one of so many, counted from 0."""
    return is_number(thing) and 0 <= thing < many


def is_tuple_of(thing, many):
    return isinstance(thing, tuple) and len(thing) == many


def are_numbers(things):
    return all([is_number(thing) for thing in things])


def tupled(thing):
    """The same with tuples for lists, at any depth: a copy that nobody else can change."""
    if isinstance(thing, (list, tuple)):
        return tuple([tupled(part) for part in thing])
    return thing


def common_part(one, other):
    """The greatest number of which both are multiples; 0 where both are 0."""
    while other != 0:
        one, other = other, one % other
    return abs(one)


def reduced(number, measure):
    """What a number leaves divided by the measure, from 0 on; the number itself where the measure is 0."""
    return number if measure == 0 else number % measure


def product(one, other):
    """The sum of the numbers of both, place by place, by one another; the longer one's rest counts for nothing."""
    return sum([here * there for here, there in zip(one, other)])


def less(one, times, other):
    """One less so many times the other, place by place."""
    return [here - times * there for here, there in zip(one, other)]


def units(many):
    return [[1 if at == row else 0 for at in range(many)] for row in range(many)]


def take_row(grid, row, times, by):
    """Takes row by, so many times, from another one."""
    grid[row] = less(grid[row], times, grid[by])


def take_column(grid, column, times, by):
    """Takes column by, so many times, from another one."""
    for row in range(len(grid)):
        grid[row][column] -= times * grid[row][by]


def bring(grid, place, corner):
    """Exchanges rows and columns so that what is at the place stands at the corner."""
    from_row, from_column = place
    grid[corner], grid[from_row] = grid[from_row], grid[corner]
    for row in range(len(grid)):
        grid[row][corner], grid[row][from_column] = grid[row][from_column], grid[row][corner]


def least_place(grid, corner, high, wide):
    """The place, from the corner on, of the number nearest to 0 but not 0; None where all are 0."""
    places = [(row, at) for row in range(corner, high) for at in range(corner, wide) if grid[row][at] != 0]
    return min(places, key=lambda place: abs(grid[place[0]][place[1]]), default=None)


def reduce_cross(grid, corner, high, wide):
    """Leaves of what stands below and behind the corner only what dividing by the corner leaves."""
    by = grid[corner][corner]
    for row in range(corner + 1, high):
        take_row(grid, row, grid[row][corner] // by, corner)
    for column in range(corner + 1, wide):
        take_column(grid, column, grid[corner][column] // by, corner)


def is_clear(grid, corner, high, wide):
    """Whether all below and behind the corner is 0."""
    below = [grid[row][corner] for row in range(corner + 1, high)]
    return not any(below) and not any(grid[corner][corner + 1:wide])


def unlike_row(grid, corner, high, wide):
    """The first row below the corner with a number that isn't a multiple of the corner; None where none has."""
    by = grid[corner][corner]
    for row in range(corner + 1, high):
        if any([number % by != 0 for number in grid[row][corner:wide]]):
            return row
    return None


def settle(grid, corner, high, wide):
    """Makes the corner a part of all that's left and all else in its row and column 0; whether it isn't 0 itself."""
    place = least_place(grid, corner, high, wide)
    while place is not None:
        bring(grid, place, corner)
        reduce_cross(grid, corner, high, wide)
        if is_clear(grid, corner, high, wide):
            row = unlike_row(grid, corner, high, wide)
            if row is None:
                return True
            # That row's remainder is nearer to 0 than the corner, so it becomes the corner in its turn.
            take_row(grid, corner, -1, row)
        place = least_place(grid, corner, high, wide)
    return False


def diagonal(rows, wide):
    """A triple (steps, left, right) such that left by rows by right has the steps at its corners and else 0.

    Each step is above 0 and a part of the next one; left and right are square and can be
    undone by whole numbers. wide is how many numbers each row has.
    """
    high = len(rows)
    # Units beside and below the rows take part in all that is done, and so become left and right.
    grid = [list(row) + unit for row, unit in zip(rows, units(high))]
    grid += [unit + [0 for row in rows] for unit in units(wide)]
    steps = []
    while settle(grid, len(steps), high, wide):
        corner = len(steps)
        if grid[corner][corner] < 0:
            grid[corner] = [-number for number in grid[corner]]
        steps.append(grid[corner][corner])
    return steps, [row[wide:] for row in grid[:high]], [row[:wide] for row in grid[high:]]
