"""Standing patterns, whose answers are kept while rows come and go."""

from joinhall.catalogues import check_catalogue, with_row, without_row
from joinhall.errors import StandingError, TooLarge
from joinhall.names import is_name
from joinhall.notation import write_catalogue, write_numbers
from joinhall.patterns import check_fit
from joinhall.standing import Standing
from joinhall.texts import write_pattern

STANDING_LIMIT = 8


class Keeper:
    """A catalogue, the patterns that stand, and the log of all that was done."""

    def __init__(self, catalogue):
        check_catalogue(catalogue)
        self._catalogue = catalogue
        self._standing = {}
        self._lines = [write_catalogue(catalogue), "begin\n"]

    @property
    def catalogue(self):
        """The catalogue as it is."""
        return self._catalogue

    @property
    def names(self):
        """The names that stand, ascending."""
        return tuple(sorted(self._standing))

    @property
    def log(self):
        """The text of the first catalogue and of all deeds."""
        return "".join(self._lines)

    def stand(self, name, pattern):
        """Make a pattern stand under a name."""
        if not is_name(name) or name in self._standing:
            raise StandingError("the name is none, or is in use")
        check_fit(self._catalogue, pattern)
        if len(self._standing) >= STANDING_LIMIT:
            raise TooLarge("too many patterns stand already")
        self._standing[name] = Standing(self._catalogue, pattern)
        self._lines.append(f"stand {name} {write_pattern(pattern)}\n")

    def under(self, name):
        """Return what stands under a name."""
        if name not in self._standing:
            raise StandingError("nothing stands under the name")
        return self._standing[name]

    def fall(self, name):
        """Forget the pattern that stands under a name."""
        self.under(name)
        del self._standing[name]
        self._lines.append(f"fall {name}\n")

    def answers(self, name):
        """Return the answers of a standing pattern, ascending."""
        return self.under(name).told()

    def ways(self, name, answer):
        """Return how many fitting assignments give an answer of a standing pattern."""
        return self.under(name).many(answer)

    def add(self, table, row):
        """Put in a row, and return which standing patterns have which answers more."""
        catalogue = with_row(self._catalogue, table, row)
        # An error for one pattern changes none of them, so all are asked beforehand.
        coming = [(name, self._standing[name].coming(catalogue, table, row)) for name in sorted(self._standing)]
        self._catalogue = catalogue
        self._lines.append(f"add {table} {write_numbers(row)}\n")
        changes = []
        for name, given in coming:
            gained = self._standing[name].gain(given)
            if len(gained) > 0:
                changes.append((name, gained, ()))
        return tuple(changes)

    def drop(self, table, row):
        """Take out a row, and return which standing patterns have which answers less."""
        catalogue = without_row(self._catalogue, table, row)
        going = [(name, self._standing[name].using(self._catalogue, table, row)) for name in sorted(self._standing)]
        self._catalogue = catalogue
        self._lines.append(f"drop {table} {write_numbers(row)}\n")
        changes = []
        for name, given in going:
            lost = self._standing[name].lose(given)
            if len(lost) > 0:
                changes.append((name, (), lost))
        return tuple(changes)
