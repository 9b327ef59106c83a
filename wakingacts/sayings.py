"""What is said along all paths of references that lead from a place ([36], [37])."""

from wakingacts.errors import NoPath, NoPlace
from wakingacts.forms import is_at_least, is_integer, row_of
from wakingacts.walks import Finds, reached_from, searched
from wakingacts.wordmaps import WordMap, map_pairs_of, references, said

MOST = 300


def followed(book, place, word_map):
    """For each reference of the body at this place the place and the map under which a reader of this map reads on, or
    None for nothing."""
    behind = []
    for target, readings in references(book.body_at(place)):
        behind.append(None if book.body_at(target) is None else (target, readings.then(word_map)))
    return behind


def number_behind(finds, reading, way):
    """The number of the row for what is read behind a reference, or -1 for nothing."""
    return -1 if reading is None else finds.number_of((reading[0], reading[1].pairs), reading, way)


def rows_found(book, address):
    """The rows of the saying of this place, and the least paths to them."""
    finds = Finds(MOST, "row")
    finds.number_of((address, ()), (address, WordMap()), ())
    rows = []
    while len(rows) < len(finds.things):
        place, word_map = finds.things[len(rows)]
        way = finds.paths[len(rows)]
        follows = []
        for number, reading in enumerate(followed(book, place, word_map)):
            follows.append(number_behind(finds, reading, (*way, number)))
        rows.append((place, word_map.pairs, said(book.body_at(place), word_map), tuple(follows)))
    return tuple(rows), finds.paths


def first_nothing(rows, ways):
    """The least path whose last reference leads to nothing, or None."""
    for number, row in enumerate(rows):
        if -1 in row[3]:
            return (*ways[number], row[3].index(-1))
    return None


def steps_from(rows, number):
    """The references of a row that lead to something, each with the row to which it leads."""
    return [(reference, behind) for reference, behind in enumerate(rows[number][3]) if behind != -1]


def least_loop(rows, first):
    """The least path, not empty, from a row to itself."""

    def follow(number):
        return steps_from(rows, number)

    loop, _ = searched(first, follow, lambda number: number == first)
    return loop


def first_ring(rows, ways):
    """The first row that can be come to again from itself, and the least paths to it and back to it; or None."""
    direct = [[behind for behind in row[3] if behind != -1] for row in rows]
    for number in range(len(rows)):
        if number in reached_from(number, direct):
            return number, ways[number], least_loop(rows, number)
    return None


class Saying:
    """All that a reader can come to who begins at a place: a row for each place and word map."""

    def __init__(self, book, address):
        if book.body_at(address) is None:
            raise NoPlace(address)
        self.rows, self._ways = rows_found(book, address)
        self._nowhere = first_nothing(self.rows, self._ways)
        self._ring = first_ring(self.rows, self._ways)

    def __getitem__(self, at):
        path = row_of(at)
        if path is None:
            raise NoPath(-1)
        number = 0
        for place, reference in enumerate(path):
            follows = () if number == -1 else self.rows[number][3]
            if not is_integer(reference, 0, len(follows) - 1):
                raise NoPath(place)
            number = follows[reference]
        return number

    def __len__(self):
        return len(self.rows)

    def __iter__(self):
        return iter(self.rows)

    def ways(self, address):
        """The maps under which this place is read, each with the least path that leads to it so."""
        return tuple([(row[1], way) for row, way in zip(self.rows, self._ways) if row[0] == address])

    @property
    def nowhere(self):
        """The least path whose last reference leads to nothing, or None."""
        return self._nowhere

    @property
    def ring(self):
        """The first row that can be come to again from itself, the least path to it, and that back to it; or None."""
        return self._ring


def told_row_of(book, thing):
    """A row of four, whose place shows something and whose map is one, or None."""
    row = row_of(thing)
    if row is None or len(row) != 4 or book.body_at(row[0]) is None:
        return None
    pairs = map_pairs_of(row[1])
    return None if pairs is None else (row[0], pairs, row[2], row[3])


def numbers_by_reading(rows):
    """The number of the first of these rows with each place and map."""
    numbers = {}
    for number, row in enumerate(rows):
        if row is not None:
            numbers.setdefault(row[:2], number)
    return numbers


def is_right_row(book, row, numbers):
    """Whether a row says what it must, and leads to the rows to which it must."""
    place, pairs, words, follows = row
    word_map = WordMap(pairs)
    given = row_of(follows)
    if row_of(words) != said(book.body_at(place), word_map):
        return False
    if given is None or not all([is_at_least(number, -1) for number in given]):
        return False
    readings = followed(book, place, word_map)
    expected = [-1 if part is None else numbers.get((part[0], part[1].pairs)) for part in readings]
    return list(given) == expected


def judge_saying(book, address, table):
    """None if the table tells the saying of this place, otherwise the number of the first row that bars it, or -1."""
    if book.body_at(address) is None:
        raise NoPlace(address)
    rows = [told_row_of(book, part) for part in row_of(table) or ()]
    if not rows or rows[0] is None or rows[0][:2] != (address, ()):
        return -1
    numbers = numbers_by_reading(rows)
    for number, row in enumerate(rows):
        if row is None or not is_right_row(book, row, numbers):
            return number
    return None
