"""The road on which letters lie for ever: each may be brought late, several times, or never."""

from seenatonce.checks import check_store, is_place
from seenatonce.errors import BadLetter, BadNumber, BadWho
from seenatonce.letters import is_hand_of, is_house_of, is_letter


class Road:
    """All letters that were sent between the hands and the houses of a store, in the sequence in which they were."""

    def __init__(self, store):
        check_store(store)
        self.store = store
        self._sent = []

    def send(self, letter):
        """Sends the letter; its number: how many were sent ahead of it."""
        if not is_letter(self.store, letter):
            raise BadLetter("no letter")
        self._sent.append(letter)
        return len(self._sent) - 1

    def count(self):
        """How many letters were sent."""
        return len(self._sent)

    def letter(self, number):
        """The letter with this number."""
        if not is_place(number, len(self._sent)):
            raise BadNumber("no number of a letter that was sent")
        return self._sent[number]

    def waiting(self, receiver):
        """The ascending list of the numbers of the letters to a hand or a house."""
        if not is_hand_of(self.store, receiver) and not is_house_of(self.store, receiver):
            raise BadWho("no hand and no house of the store")
        return [number for number, letter in enumerate(self._sent) if letter[1] == receiver]
