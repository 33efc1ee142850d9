"""The list of calls, read from its beginning to its end."""


class Source:
    """Reads the numbers of a list one behind another, without changing the list."""

    def __init__(self, numbers):
        self.numbers = numbers
        self.place = 0

    def has_more(self):
        """Tell whether there are numbers that haven't been read."""
        return self.place < len(self.numbers)

    def take_number(self):
        """Read one whole number."""
        number = self.numbers[self.place]
        self.place += 1
        return number

    def take_row(self):
        """Read how many numbers a row has, then the row."""
        many = self.take_number()
        row = self.numbers[self.place:self.place + many]
        self.place += many
        return row
