"""Rounds of letters from a hand to all houses."""


class Round:
    """An open round: its letters, one for each house, its aim, and the sayings of the right answers by their houses.

    If the round asks, its aim is what the sayings are to be about; if it tells, it is the row that is told.
    """

    def __init__(self, letters, aim):
        self.letters = letters
        self.aim = aim
        self.told = {}

    def may_hear(self, letter):
        """Whether a letter answers this round, by its form, for a house of which no right answer came."""
        sender, receiver, body = letter
        if sender[0] != "house" or sender[1] in self.told:
            return False
        writer, _, asked = self.letters[sender[1]]
        word = "have" if asked[0] == "ask" else "kept"
        return receiver == writer and body[0] == word and body[1:3] == asked[1:3]

    def waiting_for(self):
        """The list of the letters to houses of which no right answer came."""
        return [letter for house, letter in enumerate(self.letters) if house not in self.told]

    def heard(self):
        """The ascending tuple of the names of the sayings of the right answers."""
        return tuple(sorted(self.told.values()))
