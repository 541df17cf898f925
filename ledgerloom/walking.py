"""Going through a text, part by part."""

from ledgerloom.errors import InvalidText


class Walker:
    """Goes through a text once, from its beginning."""

    def __init__(self, text):
        self.text = text
        self.at = 0

    def take(self, part):
        """Whether this part is what comes next; if so it is taken."""
        if not self.text.startswith(part, self.at):
            return False
        self.at += len(part)
        return True

    def must_take(self, part):
        """Takes this part, which has to come next."""
        if not self.take(part):
            raise InvalidText(self.text)

    def take_run(self, signs):
        """Takes as many of these characters as come next."""
        start = self.at
        while self.at < len(self.text) and self.text[self.at] in signs:
            self.at += 1
        return self.text[start:self.at]

    def read_until(self, end):
        """What stands ahead of the next such end; the end is taken, too."""
        start = self.at
        found = self.text.find(end, start)
        if found == -1:
            raise InvalidText(self.text)
        self.at = found + len(end)
        return self.text[start:found]
