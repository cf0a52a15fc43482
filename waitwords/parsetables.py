"""The table of how many parses letters have by rules, and the parses with their numbers. Nothing is checked here."""

from waitwords.flatkinds import wants


class ParseTable:
    """How many parses each letter has, by lengths up to the greatest one.

    `counts` are lists of numbers by lengths; `ways` tell how many lists of parses there are of letters, one for each,
    that have so many words together.
    """

    def __init__(self, told, most):
        self.told = told
        self.counts = {letter: [0] for rule in told for letter in [rule[0]] + wants(rule)}
        self.ways = {}
        for length in range(1, most + 1):
            self.add_length(length)

    def add_length(self, length):
        """Work out the numbers of the next length."""
        totals = {letter: 0 for letter in self.counts}
        for rule in self.told:
            totals[rule[0]] += self.ways_of(wanted_text(rule), length - 1)
        for letter in totals:
            self.counts[letter].append(totals[letter])

    def ways_of(self, letters, total):
        """Return how many lists of parses there are of the letters of a text that have so many words together."""
        if not letters:
            return 1 if total == 0 else 0
        key = (letters, total)
        if key not in self.ways:
            counts = self.counts[letters[0]]
            # Each of the letters behind the first one has a word at least.
            lengths = range(1, total - len(letters) + 2)
            self.ways[key] = sum([counts[length] * self.ways_of(letters[1:], total - length) for length in lengths])
        return self.ways[key]

    def words_of(self, letter, length, number):
        """Return the list of words of the parse of a letter with a number, of a length, None if there is none."""
        for rule in self.told:
            if rule[0] == letter:
                many = self.ways_of(wanted_text(rule), length - 1)
                if number < many:
                    return self.words_of_rule(rule, length - 1, number)
                number -= many
        return None

    def words_of_rule(self, rule, total, number):
        """Return the list of words of the parse with a number, of those by a rule whose parses have so many words."""
        letters = wanted_text(rule)
        lengths, number = self.lengths_at(letters, total, number)
        groups = []
        for letter, length in reversed(list(zip(letters, lengths))):
            number, place = divmod(number, self.counts[letter][length])
            groups.insert(0, self.words_of(letter, length, place))
        many = len(rule[1])
        before = [word for group in groups[:many] for word in group]
        return before + [rule[2]] + [word for group in groups[many:] for word in group]

    def lengths_at(self, letters, total, number):
        """Return the lengths of the parses of letters in the list of them with a number, and its number among alike."""
        lengths = []
        scale = 1
        for at, letter in enumerate(letters):
            length = 0
            many = 0
            while number >= many:
                number -= many
                length += 1
                many = scale * self.counts[letter][length] * self.ways_of(letters[at + 1:], total - length)
            lengths.append(length)
            scale = scale * self.counts[letter][length]
            total -= length
        return lengths, number


def wanted_text(rule):
    """Return the text of the letters that a rule wants, from the left."""
    return "".join(wants(rule))
