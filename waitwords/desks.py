"""An office's desk: named kinds and a book, with forks, undo, and orders by text."""

from waitwords.bookchecks import check_asked, check_word
from waitwords.bookrows import ListSearch
from waitwords.books import Book
from waitwords.deskorders import QUESTIONS, is_name, names_text, read_order
from waitwords.errors import DoubleKind, DoubleName, InvalidName, MissingKind, NothingToUndo, UnknownName
from waitwords.finding import comes_to, how_many
from waitwords.kindchecks import check_kinds, check_not_empty
from waitwords.kinds import lifted, swapped, turned
from waitwords.texts import show_book, show_kind

# The name of the first fork.
MAIN = "main"


class Desk:
    """Forks, each with a book and named kinds, one of them open; and all that stood ahead of the calls that stand.

    What one fork holds is a tuple (book, dict of the named kinds). No such dict is changed, so forks, and what stood
    ahead, may share one.
    """

    def __init__(self, book):
        self._forks = {MAIN: (book, {})}
        self._fork = MAIN
        self._past = []

    @property
    def book(self):
        """Return the book of the open fork."""
        return self._forks[self._fork][0]

    @property
    def fork(self):
        """Return the name of the open fork."""
        return self._fork

    def forks(self):
        """Return the ascending list of the names of the forks."""
        return sorted(self._forks)

    def names(self):
        """Return the ascending list of the names of the kinds of the open fork."""
        return sorted(self._named())

    def __len__(self):
        return len(self._past)

    def put(self, name, kind):
        """Put a named kind, in the place of an elder one."""
        _check_name(name)
        check_kinds([kind])
        self._name_kind(name, kind)

    def make(self, name, deed):
        """Put the kind that a deed makes of named ones."""
        _check_name(name)
        self._name_kind(name, self._made(deed))

    def teach(self, word, name):
        """Give a word of the book a named kind more, or put a word with it at the end of the book."""
        check_word(word)
        kind = self.kind(name)
        entries = self.book.entries
        if word not in self.book.words():
            entries.append((word, []))
        elif kind in self.book.kinds(word):
            raise DoubleKind(name)
        self._change_book([(other, kinds + [kind] if other == word else kinds) for other, kinds in entries])

    def forget(self, word, name):
        """Take a named kind of a word away, and the word, too, if it has no other one."""
        kind = self.kind(name)
        if kind not in self.book.kinds(word):
            raise MissingKind(name)
        left = [(other, [one for one in kinds if other != word or one != kind]) for other, kinds in self.book.entries]
        self._change_book([(other, kinds) for other, kinds in left if kinds])

    def drop(self, name):
        """Take a name out."""
        self.kind(name)
        named = self._named()
        self._change_fork(self.book, {other: named[other] for other in named if other != name})

    def branch(self, name):
        """Make a new fork with the kinds and the book of the open one, which stays open."""
        _check_name(name)
        if name in self._forks:
            raise DoubleName(name)
        forks = dict(self._forks)
        forks[name] = forks[self._fork]
        self._go_on(forks, self._fork)

    def switch(self, name):
        """Open a fork."""
        if name not in self._forks:
            raise UnknownName(name)
        self._go_on(self._forks, name)

    def undo(self):
        """Take the last call back that changes the desk and is not taken back."""
        if not self._past:
            raise NothingToUndo(0)
        self._forks, self._fork = self._past.pop()

    def kind(self, name):
        """Return a named kind."""
        named = self._named()
        if name not in named:
            raise UnknownName(name)
        return named[name]

    def comes(self, names, name):
        """Tell whether the row of named kinds comes to a named one."""
        return comes_to(self._row(names), self.kind(name))

    def count(self, names, name):
        """Return how many long readings of the row of named kinds show a named one."""
        return how_many(self._row(names), self.kind(name))

    def lets(self, words, name):
        """Tell whether a list of words of the book comes to a named kind."""
        check_not_empty(words)
        kind = self.kind(name)
        check_asked(self.book, words, kind)
        return ListSearch(kind).list_comes(self.book, words)

    def same_as(self, name):
        """Return the ascending list of the other names whose kinds are alike."""
        kind = self.kind(name)
        named = self._named()
        return [other for other in sorted(named) if other != name and named[other] == kind]

    def order(self, text):
        """Do what a text says, and return the text that answers."""
        verb, told = read_order(text)
        if verb in QUESTIONS:
            return self._answer(verb, told)
        self._do(verb, told)
        return "done"

    def _answer(self, verb, told):
        """Return the text that answers a question."""
        if verb == "show":
            return show_kind(self.kind(told[0]))
        if verb == "book":
            return show_book(self.book)
        if verb == "count":
            return str(self.count(told[0], told[1]))
        if verb == "comes":
            return "yes" if self.comes(told[0], told[1]) else "no"
        if verb == "lets":
            return "yes" if self.lets(told[0], told[1]) else "no"
        if verb == "same":
            return names_text(self.same_as(told[0]))
        return names_text(self.forks() if verb == "forks" else self.names())

    def _do(self, verb, told):
        """Do what an order says that asks nothing."""
        if verb == "put":
            self.put(told[0], told[1])
        elif verb == "teach":
            self.teach(told[0], told[1])
        elif verb == "forget":
            self.forget(told[0], told[1])
        elif verb == "drop":
            self.drop(told[0])
        elif verb == "branch":
            self.branch(told[0])
        elif verb == "switch":
            self.switch(told[0])
        elif verb == "undo":
            self.undo()
        else:
            self.make(told[0], (verb,) + tuple(told[1:]))

    def _made(self, deed):
        """Return the kind that a deed makes."""
        text = deed[0]
        if text == "swapped":
            _, one, letter, other = deed
            kinds = [self.kind(one), self.kind(other)]
            return swapped(kinds[0], letter, kinds[1])
        kinds = [self.kind(name) for name in deed[1:]]
        if text == "turned":
            return turned(kinds[0])
        if text == "lifted":
            return lifted(kinds[0], kinds[1], True)
        return (text, kinds[0], kinds[1])

    def _named(self):
        """Return the dict of the named kinds of the open fork, which is not to be changed."""
        return self._forks[self._fork][1]

    def _row(self, names):
        """Return the row of named kinds."""
        check_not_empty(names)
        return [self.kind(name) for name in names]

    def _name_kind(self, name, kind):
        """Put a named kind once all is checked."""
        named = dict(self._named())
        named[name] = kind
        self._change_fork(self.book, named)

    def _change_book(self, entries):
        """Put a book with other entries in the place of that of the open fork."""
        self._change_fork(Book(entries), self._named())

    def _change_fork(self, book, named):
        """Put another book and other named kinds in the place of those of the open fork."""
        forks = dict(self._forks)
        forks[self._fork] = (book, named)
        self._go_on(forks, self._fork)

    def _go_on(self, forks, fork):
        """Put other forks and an open one in the place of those that are, and keep these for `undo`."""
        self._past.append((self._forks, self._fork))
        self._forks = forks
        self._fork = fork


def _check_name(name):
    """Raise InvalidName for a text that is no name."""
    if not is_name(name):
        raise InvalidName(name)
