"""The texts of lots, rules, books and tables, and how they are read."""

from meetlots.bounds import MAX_ROWS, MAX_RULES, MAX_THINGS
from meetlots.errors import BadText
from meetlots.lots import is_lot


def lot_text(lot):
    """The text of a lot."""
    if not lot:
        return "none"
    return " ".join([str(thing) for thing in lot])


def rule_text(rule):
    """The text of a rule."""
    ahead, behind = rule
    return lot_text(ahead) + " > " + lot_text(behind)


def book_text(book):
    """The text of a book."""
    size, rules = book
    return "\n".join([str(size)] + [rule_text(rule) for rule in rules])


def table_text(table):
    """The text of a table."""
    size, rows = table
    return "\n".join([str(size)] + [lot_text(row) for row in rows])


def _read_lot(size, text):
    """The lot of a size that has a text, None if there is none."""
    names = [str(thing) for thing in range(size)]
    lot = tuple([names.index(word) for word in text.split(" ") if word in names])
    # Words that are no things were passed over, so the text tells them.
    if not is_lot(size, lot) or lot_text(lot) != text:
        return None
    return lot


def _read_rule(size, text):
    """The rule of a size that has a text, None if there is none."""
    parts = text.split(" > ")
    if len(parts) != 2:
        return None
    ahead, behind = [_read_lot(size, part) for part in parts]
    if ahead is None or behind is None:
        return None
    return (ahead, behind)


def _read_size(value):
    """The size on the first line of a text, and its other lines."""
    if not isinstance(value, str):
        raise BadText(0)
    lines = value.split("\n")
    names = [str(size) for size in range(MAX_THINGS + 1)]
    if lines[0] not in names:
        raise BadText(0)
    return names.index(lines[0]), lines[1:]


def parse_book(value):
    """The book that has a text."""
    size, lines = _read_size(value)
    rules = []
    for line in lines:
        rule = _read_rule(size, line)
        if rule is None or len(rules) == MAX_RULES:
            raise BadText(len(rules) + 1)
        rules.append(rule)
    return (size, tuple(rules))


def parse_table(value):
    """The table that has a text."""
    size, lines = _read_size(value)
    rows = []
    for line in lines:
        row = _read_lot(size, line)
        if row is None or len(rows) == MAX_ROWS:
            raise BadText(len(rows) + 1)
        rows.append(row)
    return (size, tuple(rows))
