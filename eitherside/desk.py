"""A console: commands that change a book, and questions about it."""

from eitherside.answers import answer
from eitherside.books import SIDES, is_name, read_head, read_method
from eitherside.errors import NoCommand, NoText
from eitherside.free import unfree
from eitherside.patterns import read_pattern
from eitherside.registry import Registry
from eitherside.rows import outcome_of
from eitherside.trees import read_tree, show_tree


class Desk:
    """What answers the commands."""

    def __init__(self):
        self.registry = Registry()

    def say(self, command):
        """The answer to any value, a command."""
        words = command.split(" ") if isinstance(command, str) else [""]
        action = _ACTIONS.get(words[0])
        if action is None:
            raise NoCommand()
        return action(self.registry, words[1:])


def _say_class(registry, words):
    """Adds a class."""
    head = read_head(words)
    if head is None:
        raise NoCommand()
    name, base = head
    return f"version {registry.tell(name, base)}"


def _say_method(registry, words):
    """Sets a method of a class."""
    method = read_method(words[1:])
    if method is None or not is_name(words[0]):
        raise NoCommand()
    return f"version {registry.set_method(words[0], method)}"


def _say_drop(registry, words):
    """Drops a method of a class."""
    if len(words) != 2 or not is_name(words[0]) or words[1] not in SIDES:
        raise NoCommand()
    return f"version {registry.drop_method(words[0], words[1])}"


def _say_undo(registry, words):
    """Reverts the last change."""
    if words:
        raise NoCommand()
    return f"version {registry.undo()}"


def _say_sum(registry, words):
    """The outcome of a tree."""
    tree = _read_by(read_tree, words)
    outcome = outcome_of(registry.book.table(), tree)
    return "raises" if outcome is None else outcome


def _say_ask(registry, words):
    """Who is asked for a sum, and what each says."""
    if len(words) != 2 or not all([is_name(word) for word in words]):
        raise NoCommand()
    attempts, _ = answer(registry.book, words[0], words[1])
    said = [" ".join([asked, side, "no" if place is None else "yes"]) for asked, side, place in attempts]
    return "; ".join(said) if said else "nobody"


def _say_free(registry, words):
    """Whether a pattern is free."""
    pattern = _read_by(read_pattern, words)
    trees = unfree(registry.book.table(), pattern)
    return "free" if trees is None else " / ".join([show_tree(tree) for tree in trees])


def _say_book(registry, words):
    """The book in one row."""
    if words:
        raise NoCommand()
    return str(registry.book).replace("\n", " / ") if len(registry.book) else "empty"


def _read_by(reader, words):
    """What the reader makes of the text with these words."""
    try:
        return reader(" ".join(words))
    except NoText:
        raise NoCommand() from None


_ACTIONS = {
    "class": _say_class,
    "method": _say_method,
    "drop": _say_drop,
    "undo": _say_undo,
    "sum": _say_sum,
    "ask": _say_ask,
    "free": _say_free,
    "book": _say_book,
}
