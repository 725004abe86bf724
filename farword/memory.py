"""Memory: cells that hold rows, each of which bears one flip."""

from farword.errors import Unmendable
from farword.words import coded, flipped, mended, state_of, value_in


class Memory:
    """So many cells, numbered from 0 on, that hold rows for words of so many data bits."""

    def __init__(self, cells, bits):
        self.cells = cells
        self.bits = bits
        self._rows = [coded(bits, 0)] * cells

    def write(self, cell, value):
        """Puts the word with the value into the cell."""
        self._rows[cell] = coded(self.bits, value)

    def read(self, cell):
        """The value of the word that the row of the cell is or is one flip away from. Raises Unmendable."""
        return value_in(self.bits, self._word_at(cell))

    def scrub(self, cell):
        """Puts the word there that the row of the cell is one flip away from; whether it was. Raises Unmendable."""
        word = self._word_at(cell)
        was_off = word != self._rows[cell]
        self._rows[cell] = word
        return was_off

    def scrub_all(self):
        """Scrubs all cells that can be; the cells that were one flip away, and those that cannot be mended."""
        scrubbed = []
        unmendable = []
        for cell in range(self.cells):
            state, _ = self.state_at(cell)
            if state == "one":
                self.scrub(cell)
                scrubbed.append(cell)
            if state == "more":
                unmendable.append(cell)
        return (scrubbed, unmendable)

    def flip(self, cell, place):
        """Flips the place of the cell."""
        self._rows[cell] = flipped(self._rows[cell], [place])

    def row_at(self, cell):
        """The row of the cell, as it stands."""
        return self._rows[cell]

    def state_at(self, cell):
        """What the row of the cell is, as `state_of` tells it."""
        return state_of(self.bits, self._rows[cell])

    def twin(self):
        """Another memory with the same rows."""
        other = Memory(self.cells, self.bits)
        other._rows = list(self._rows)
        return other

    def _word_at(self, cell):
        word = mended(self.bits, self._rows[cell])
        if word is None:
            raise Unmendable(cell)
        return word
