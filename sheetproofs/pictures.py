"""Pictures: points, walls and the open pairs between them."""

from sheetproofs.errors import BadPicture, NotOpen
from sheetproofs.numbers import is_whole
from sheetproofs.sequences import is_sequence

MOST_CORNERS = 5


def full_picture(points, walls):
    """Return the picture in which every pair is open."""
    bare = Picture(points, walls, ())
    pairs = [(point, wall) for point in range(points) for wall in range(walls)]
    return Picture(bare.points, bare.walls, pairs)


def merged_labels(labels, one, other):
    """Return the labels with the greater of two labels replaced by the lesser."""
    least = min(one, other)
    return [least if label in (one, other) else label for label in labels]


def _piece_labels(points, walls, pairs):
    """Return the least corner of the piece of each corner; wall w is corner points + w."""
    labels = list(range(points + walls))
    for point, wall in pairs:
        labels = merged_labels(labels, labels[point], labels[points + wall])
    return labels


def _pieces_by_labels(points, labels):
    """Return the pieces, ordered by their labels, each with its points and its walls."""
    pieces = []
    for label in range(len(labels)):
        corners = [corner for corner in range(len(labels)) if labels[corner] == label]
        if corners:
            inside = tuple([corner for corner in corners if corner < points])
            pieces.append((inside, tuple([corner - points for corner in corners if corner >= points])))
    return tuple(pieces)


class Picture:
    """Points, walls and the ascending tuple of the open pairs."""

    def __init__(self, points, walls, pairs):
        if not is_whole(points, 1, MOST_CORNERS):
            raise BadPicture("points")
        if not is_whole(walls, 1, MOST_CORNERS):
            raise BadPicture("walls")
        self.points = points
        self.walls = walls
        if not is_sequence(pairs):
            raise BadPicture("pair")
        for pair in pairs:
            if not self._is_pair(pair):
                raise BadPicture("pair")
        kept = sorted([tuple(pair) for pair in pairs])
        for at in range(1, len(kept)):
            if kept[at - 1] == kept[at]:
                raise BadPicture("double")
        self.pairs = tuple(kept)
        self._pieces = _pieces_by_labels(points, _piece_labels(points, walls, kept))

    def __eq__(self, other):
        return (isinstance(other, Picture) and self.points == other.points
                and self.walls == other.walls and self.pairs == other.pairs)

    def __len__(self):
        return len(self.pairs)

    @property
    def pieces(self):
        """The pieces, each an ascending tuple of points and one of walls."""
        return self._pieces

    def _is_pair(self, thing):
        """Tell whether the thing is a couple of a point and a wall, open or not."""
        return (is_sequence(thing, 2) and is_whole(thing[0], 0, self.points - 1)
                and is_whole(thing[1], 0, self.walls - 1))

    def place_of(self, pair):
        """Return the index of an open pair among the open pairs."""
        if not self.is_open(pair):
            raise NotOpen(pair)
        return self.pairs.index(tuple(pair))

    def is_open(self, pair):
        """Tell whether the thing is an open pair."""
        return self._is_pair(pair) and tuple(pair) in self.pairs

    def with_pair(self, pair):
        """Return the picture in which this pair is open too."""
        return Picture(self.points, self.walls, self.pairs + (pair,))

    def without_pair(self, pair):
        """Return the picture in which this open pair is not open."""
        place = self.place_of(pair)
        return Picture(self.points, self.walls, self.pairs[:place] + self.pairs[place + 1:])
