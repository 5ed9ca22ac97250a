"""Searches through the words that a machine reads.

Rows and columns of numbers of states are only followed where they are independent of those
before them, so each search ends, behind at most as many of them as there are states.
"""

from matrixforms.machines import symbols_of
from matrixforms.reducing import column_through
from matrixforms.rows import columns_of, mixed
from matrixforms.spans import Span, shortened


def keep_new(span, rows):
    """Take these rows into a span, and return the list of those that were not in it."""
    found = []
    for row in rows:
        cells = span.reduced(row[0])
        if cells:
            span.keep(cells)
            found.append(row)
    return found


def led_on(rows, table):
    """Return the list of the rows to which a table leads from these ones, without rows of zeros."""
    moved = [mixed(row, table) for row in rows]
    return [row for row in moved if row[0]]


def first_word(machine):
    """Return the first word of one symbol or more with a coefficient other than 0, None if there is none."""
    symbols = symbols_of(machine)
    span = Span()
    level = [((), [machine.starts[index] for index in sorted(list(machine.starts))])]
    while level:
        following = []
        for word, rows in level:
            # What is mixed of rows for words before this one cannot show the first word.
            kept = keep_new(span, rows)
            for symbol in symbols:
                if led_on(kept, machine.ends.get(symbol, {})):
                    return (*word, symbol)
                moved = led_on(kept, machine.moves.get(symbol, {}))
                if moved:
                    following.append(((*word, symbol), moved))
        level = following
    return None


def reached(machine):
    """Return the span of all rows to which words lead."""
    span = Span()
    moves = list(machine.moves.values())
    waiting = [row[0] for row in list(machine.starts.values())]
    while waiting:
        cells = span.reduced(waiting.pop())
        if cells:
            span.keep(cells)
            waiting.extend([mixed((cells, 1), table)[0] for table in moves])
    return span


def ending_columns(machine):
    """Return the list of the words of one symbol, each with an index of the columns and its column of the ends."""
    found = []
    for symbol in sorted(list(machine.ends)):
        columns = columns_of(machine.ends[symbol])[0]
        found.extend([((symbol,), index, columns[index]) for index in sorted(list(columns))])
    return found


def telling_words(machine):
    """Return words with an index of the columns that tell all tails apart, each with its column of numbers.

    The column has a positive multiple of what the word makes of each state at this index of
    the columns. The columns are independent, and there are as many as possible.
    """
    moves = {symbol: columns_of(table)[0] for symbol, table in machine.moves.items()}
    span = Span()
    found = []
    level = ending_columns(machine)
    while level:
        following = []
        for word, index, column in level:
            if keep_new(span, [(column, 1)]):
                found.append((word, index, column))
                for symbol in sorted(list(moves)):
                    following.append(((symbol, *word), index, shortened(column_through(moves[symbol], column))))
        level = following
    return found
