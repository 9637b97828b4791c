"""Tree pairs and other pairs, and the tours that the numbers at the other pairs determine."""

from sheetproofs.errors import BadRow
from sheetproofs.sequences import is_whole_row
from sheetproofs.tours import check_tour, no_tour


def _row_minus(one, other):
    """Return the difference of two rows."""
    return [number - taken for number, taken in zip(one, other)]


def _tree_and_basis(picture):
    """Return the places of the tree pairs and the basis tours."""
    roots = list(range(picture.points + picture.walls))
    # walks[c] steps from the root of c's piece to c: 1 to a point, -1 to a wall, as in a ring.
    walks = [list(no_tour(picture)) for _ in roots]
    tree = []
    tours = []
    for place, (point, wall) in enumerate(picture.pairs):
        far = picture.points + wall
        gap = _row_minus(walks[far], walks[point])
        gap[place] = gap[place] + 1
        if roots[point] == roots[far]:
            tours.append(tuple(gap))
            continue
        tree.append(place)
        moved = roots[far]
        for corner in range(len(roots)):
            if roots[corner] == moved:
                roots[corner] = roots[point]
                walks[corner] = _row_minus(walks[corner], gap)
    return tuple(tree), tuple(tours)


def tree_places(picture):
    """Return the places of the pairs that join two pieces of the pairs before."""
    tree, _ = _tree_and_basis(picture)
    return tree


def other_places(picture):
    """Return the places of all open pairs that are no tree pairs."""
    tree = tree_places(picture)
    return tuple([place for place in range(len(picture)) if place not in tree])


def placed_row(picture, numbers, filler):
    """Return a row with these numbers at the other places and the filler at each tree pair."""
    placed = [filler] * len(picture)
    for place, number in zip(other_places(picture), numbers):
        placed[place] = number
    return tuple(placed)


def basis_tours(picture):
    """Return the tours with 1 at one of the other places and 0 at the rest of them."""
    _, tours = _tree_and_basis(picture)
    return tours


def tour_of(picture, row):
    """Return the one tour with these numbers at the other places."""
    tours = basis_tours(picture)
    if not is_whole_row(row, len(tours)):
        raise BadRow()
    numbers = list(no_tour(picture))
    for times, tour in zip(row, tours):
        for place in range(len(numbers)):
            numbers[place] = numbers[place] + times * tour[place]
    return tuple(numbers)


def row_of(picture, tour):
    """Return the numbers of a tour at the other places."""
    numbers = check_tour(picture, tour)
    return tuple([numbers[place] for place in other_places(picture)])
