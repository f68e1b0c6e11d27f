"""Pages: a book's tables and bounds as a text, and back."""

from edgetally.book import Book
from edgetally.bounds import FREE, check_cell, check_rows, free
from edgetally.errors import BadPage, EdgeError
from edgetally.words import numbers_in


def line_of(word, numbers):
    return " ".join([word] + [str(number) for number in numbers])


def table_lines(book, name):
    """Tells the lines of one table."""
    rows = [line_of("row", counts) for counts in book.table(name).cells()]
    holds = [
        line_of("hold", [row, column, low, high])
        for row, pairs in enumerate(book.bounds(name))
        for column, (low, high) in enumerate(pairs)
        if (low, high) != FREE
    ]
    return [f"table {name}"] + rows + holds


def page(book):
    """Tells the page of a book."""
    lines = [line_of("edgetally", [len(book)])]
    for name in book.names():
        lines += table_lines(book, name)
    return "\n".join(lines)


def numbers_behind(words):
    """Tells the numbers behind a line's first word."""
    numbers = numbers_in(words[1:])
    if numbers is None:
        raise BadPage("a word is no number")
    return numbers


def entries_in(lines):
    """Tells (name, rows, holds) of each table in the lines, in whatever order these stand."""
    entries = []
    for line in lines:
        words = line.split(" ")
        if words[0] == "table":
            entries.append((line[len("table "):], [], []))
        elif len(entries) > 0 and words[0] == "row":
            entries[-1][1].append(numbers_behind(words))
        elif len(entries) > 0 and words[0] == "hold" and len(words) == 5:
            entries[-1][2].append(numbers_behind(words))
        else:
            raise BadPage("a line is none of a page")
    return entries


def bounds_held(rows, holds):
    """Tells the bounds of the rows: free but for the holds."""
    check_rows(rows)
    bounds = free(len(rows), len(rows[0]))
    for row, column, low, high in holds:
        check_cell(row, column, len(rows), len(rows[0]))
        bounds[row][column] = (low, high)
    return bounds


def book_in(lines):
    """Tells the book that the lines behind a page's first one tell of, without steps."""
    book = Book()
    for name, rows, holds in entries_in(lines):
        book.put(name, rows, bounds=bounds_held(rows, holds))
    book.settle()
    return book


def read_page(text):
    """Tells the book of a page, without steps."""
    try:
        book = book_in(text.split("\n")[1:])
    except EdgeError:
        raise BadPage("this is no page of any book") from None
    # A book has one page: what is written otherwise, or in another order, is none.
    if page(book) != text:
        raise BadPage("this is written otherwise than the page of its tables")
    return book
