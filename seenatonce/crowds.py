"""Houses that lie: versions of one house, one of which is picked for each letter."""

from seenatonce.disks import Disk
from seenatonce.houses import House

MOST_VERSIONS = 8
WAYS = 4


class Picks:
    """Numbers that tell, one behind another and then again from the first one on, which of some things to pick."""

    def __init__(self, numbers):
        self._numbers = list(numbers)
        self._next = 0

    def pick(self, many):
        """The place of one of so many things."""
        if not self._numbers:
            return 0
        number = self._numbers[self._next]
        self._next = (self._next + 1) % len(self._numbers)
        return number % many


class Liar:
    """A house that lies: Houses with one number, each on a disk of its own."""

    def __init__(self, trust, store, number):
        self._trust = trust
        self._store = store
        self._number = number
        self._versions = [self._version({})]

    def hear(self, letter, picks):
        """The letters with which the version that is picked answers, in the way that is picked."""
        way = picks.pick(WAYS)
        if way == WAYS - 1:
            return []
        version = self._versions[picks.pick(len(self._versions))]
        if way == 1 and len(self._versions) < MOST_VERSIONS:
            version = self._version(version.disk.cells())
            self._versions.append(version)
        elif way == 2:
            other = self._versions[picks.pick(len(self._versions))]
            version.disk.write("past", other.past())
        return version.hear(letter)

    def _version(self, cells):
        return House(self._trust, self._store, self._number, Disk(cells, None))
