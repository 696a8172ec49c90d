"""Shelves: blocks of rows, poured together by their weights."""

from timegranary.blocks import Block
from timegranary.rows import needless, poured


def level(weight):
    """The level of a weight from 1 on."""
    return weight.bit_length() - 1


def first_pair(blocks):
    """The places of the first two blocks of the least level that two have, None where no two have one."""
    places = {}
    for at, block in enumerate(blocks):
        places.setdefault(level(block.weight), []).append(at)
    twice = [own_level for own_level in places if len(places[own_level]) > 1]
    if not twice:
        return None
    return places[min(twice)][:2]


def poured_block(one, two):
    """The block of two blocks' rows."""
    places = sorted(set(one.places() + two.places()))
    rows = {place: poured(one.rows_at(place), two.rows_at(place)) for place in places}
    return Block(rows, weight=one.weight + two.weight)


class Shelf:
    """Blocks in order."""

    def __init__(self, blocks=()):
        self.kept = list(blocks)

    def laid(self, block):
        """Put a block behind the others, pour together what is of one level, and tell how many pourings there were."""
        self.kept.append(block)
        many = 0
        pair = first_pair(self.kept)
        while pair is not None:
            one, two = pair
            self.kept[one] = poured_block(self.kept[one], self.kept[two])
            del self.kept[two]
            many += 1
            pair = first_pair(self.kept)
        return many

    def forgotten(self, number):
        """Take out the rows that are needless at a number, and tell how many went."""
        places = sorted({place for block in self.kept for place in block.places()})
        gone = {
            (place, row[0], row[1]): True
            for place in places for row in needless(self.rows_at(place), number)
        }
        return self.sift(lambda place, row: (place, row[0], row[1]) not in gone)

    def let_go(self, time):
        """Take out the rows below a time, and tell how many went."""
        return self.sift(lambda place, row: row[0] >= time)

    def weights(self):
        """The weights of the blocks in order."""
        return [block.weight for block in self.kept]

    def rows_of(self, place, start, end):
        """The rows of a series in a stretch, by time and number, each once."""
        return [row for row in self.rows_at(place) if start <= row[0] < end]

    def block_texts(self):
        """The texts of the blocks in order."""
        return [block.text() for block in self.kept]

    def rows_at(self, place):
        """All rows of a series, by time and number, each once."""
        return poured([row for block in self.kept for row in block.rows_at(place)], [])

    def sift(self, stays):
        """Leave in the blocks the rows of which stays, told a place and a row, is true; tell how many went."""
        many = sum([len(block) for block in self.kept])
        self.kept = [sifted_block(block, stays) for block in self.kept]
        return many - sum([len(block) for block in self.kept])


def sifted_block(block, stays):
    """The block without the rows that don't stay."""
    rows = {place: [row for row in block.rows_at(place) if stays(place, row)] for place in block.places()}
    return Block({place: rows[place] for place in rows if rows[place]}, weight=block.weight)
