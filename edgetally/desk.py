"""Desks: deeds and questions told as lines, answered by texts."""

from edgetally.errors import EdgeError
from edgetally.words import numbers_in

# By the first word of a line: how many words stand behind it, and how many numbers behind these.
FORMS = {
    "come": (1, 3),
    "turn": (1, 0),
    "drop": (1, 0),
    "bar": (1, 4),
    "undo": (0, 0),
    "redo": (0, 0),
    "show": (1, 0),
    "share": (2, 0),
    "names": (0, 0),
}


def rows_in(words):
    """Tells the rows of numbers that the words write with `/` between, or None."""
    parted = [[]]
    for word in words:
        if word == "/":
            parted.append([])
        else:
            parted[-1].append(word)
    rows = [numbers_in(row) for row in parted]
    return None if None in rows or [] in rows else rows


def put_in_line(words):
    # Where the line ends ahead of its counts, there is one row without a number, and so None.
    rows = rows_in(words[2:])
    return None if rows is None else [words[1], rows]


def handed_in_line(words):
    """Tells what a line hands in behind its first word, or None where its form is another."""
    if words[0] == "put":
        return put_in_line(words)
    if words[0] not in FORMS:
        return None
    many, numbers = FORMS[words[0]]
    if len(words) != 1 + many + numbers:
        return None
    read = numbers_in(words[1 + many:])
    return None if read is None else words[1:1 + many] + read


def share_shown(book, name, kind):
    top, under = book.share(name, kind)
    return f"{top}/{under}"


def names_shown(book):
    return " ".join(book.names()) if len(book) > 0 else "-"


def do_deed(book, word, handed):
    if word == "put":
        book.put(handed[0], handed[1])
    elif word == "come":
        book.come(handed[0], handed[1], handed[2], many=handed[3])
    elif word == "turn":
        book.turn(handed[0])
    elif word == "drop":
        book.drop(handed[0])
    elif word == "bar":
        book.bar(handed[0], handed[1], handed[2], low=handed[3], high=handed[4])
    elif word == "undo":
        book.undo()
    else:
        book.redo()


def answer_to(book, words):
    """Tells the answer to a line's words, or refuses as the book does."""
    handed = handed_in_line(words)
    if handed is None:
        return "no line"
    if words[0] == "show":
        return str(book.table(handed[0]))
    if words[0] == "share":
        return share_shown(book, handed[0], handed[1])
    if words[0] == "names":
        return names_shown(book)
    do_deed(book, words[0], handed)
    return "ok"


class Desk:
    """A desk that works on one book, line by line."""

    def __init__(self, book):
        self.book = book
        self.answered = []

    def tell(self, line):
        """Does or asks what a line says, and tells the answer."""
        try:
            answer = answer_to(self.book, line.split(" "))
        except EdgeError as e:
            answer = f"no {e.word}"
        self.answered.append((line, answer))
        return answer

    def told(self):
        """Tells (line, answer) of all lines so far, in order."""
        return list(self.answered)
