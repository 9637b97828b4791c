"""The texts of pictures, rings and sayings: how they are written and read."""

from sheetproofs.errors import BadPicture, BadRing, BadSaying, BadText
from sheetproofs.pictures import Picture
from sheetproofs.rings import check_ring
from sheetproofs.sayings import check_saying

DIGITS = "0123456789"
MOST_DIGITS = 300
WORDS_OF_SIGNS = ("1", "-1")


def _words_of(text):
    """Return what stands between single spaces; two spaces leave an empty word."""
    if not isinstance(text, str):
        raise BadText(0)
    return text.split(" ")


def _natural_of(word):
    """Return the number from 0 that the word writes."""
    if word == "" or len(word) > MOST_DIGITS:
        raise BadText(0)
    for sign in word:
        if sign not in DIGITS:
            raise BadText(0)
    if word[0] == "0" and word != "0":
        raise BadText(0)
    return int(word)


def _whole_of(word):
    """Return the number that the word writes, perhaps with a minus."""
    if not word.startswith("-"):
        return _natural_of(word)
    number = _natural_of(word[1:])
    if number == 0:
        raise BadText(0)
    return -number


def _pair_of(word):
    """Return the pair of digits that the word writes."""
    if len(word) != 2:
        raise BadText(0)
    return _natural_of(word[0]), _natural_of(word[1])


def picture_text(picture):
    """Write a picture as its points, its walls and its open pairs."""
    pairs = [f" {point}{wall}" for point, wall in picture.pairs]
    return f"{picture.points} {picture.walls}:" + "".join(pairs)


def picture_of_text(text):
    """Read the text of a picture."""
    words = _words_of(text)
    if len(words) < 2 or not words[1].endswith(":"):
        raise BadText(0)
    points = _natural_of(words[0])
    walls = _natural_of(words[1][:-1])
    pairs = [_pair_of(word) for word in words[2:]]
    try:
        picture = Picture(points, walls, pairs)
    except BadPicture:
        raise BadText(0)
    # A picture sorts its pairs, so a text with other places shows up here.
    if picture.pairs != tuple(pairs):
        raise BadText(0)
    return picture


def ring_text(corners):
    """Write a ring as its corners; the ring is not checked."""
    return " ".join([str(corner) for corner in corners])


def ring_of_text(picture, text):
    """Read the text of a ring of the picture."""
    corners = [_natural_of(word) for word in _words_of(text)]
    try:
        return check_ring(picture, corners)
    except BadRing:
        raise BadText(0)


def saying_text(picture, saying):
    """Write a saying as the numbers of its tour and the worth that it tells."""
    tour, sign = check_saying(picture, saying)
    return " ".join([str(number) for number in tour] + ["=", WORDS_OF_SIGNS[sign]])


def saying_of_text(picture, text):
    """Read the text of a saying of the picture."""
    words = _words_of(text)
    if len(words) < 2 or words[-2] != "=" or words[-1] not in WORDS_OF_SIGNS:
        raise BadText(0)
    tour = [_whole_of(word) for word in words[:-2]]
    try:
        return check_saying(picture, (tour, WORDS_OF_SIGNS.index(words[-1])))
    except BadSaying:
        raise BadText(0)
