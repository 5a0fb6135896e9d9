"""How often the things of a house stand in what it keeps."""

from manygoings.worths import is_thing


class Tally:
    """Counts the places where each thing stands, and notes those that lose the last one."""

    def __init__(self):
        self.places = {}
        self.loose = {}

    def more(self, worths):
        """These worths stand in one more place each."""
        for worth in worths:
            if is_thing(worth):
                self.places[worth] = self.places.get(worth, 0) + 1

    def less(self, worths):
        """These worths stand in one place less each."""
        for worth in worths:
            if is_thing(worth):
                self.places[worth] -= 1
                if self.places[worth] == 0:
                    del self.places[worth]
                    self.loose[worth] = True

    def loosened(self):
        """The things that lost their last place since this was asked, and have none now."""
        found = [thing for thing in self.loose if thing not in self.places]
        self.loose = {}
        return found
