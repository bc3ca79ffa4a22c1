"""Weights within limits that gain the most, and rates that show that none gain more, in whole numbers alone.

A table has a row for each limit and, last, one for the gain; its columns are the weights, then what
each limit leaves over, and last the limits themselves. All stands over one bottom. In each row one
column is held: what it has is read off the row, all others are 0.
"""


def first_table(gains, rows, limits):
    """The table with all weights 0: each row holds what its limit leaves over."""
    table = []
    for place, row in enumerate(rows):
        left_over = [1 if other == place else 0 for other in range(len(rows))]
        table.append(row + left_over + [limits[place]])
    table.append(gains + [0 for row in rows] + [0])
    return table


def entering(table):
    """The first column by which more is gained, or None; taking the first one, it never goes in a circle."""
    for column, gain in enumerate(table[-1][:-1]):
        if gain > 0:
            return column
    return None


def is_tighter(table, held, column, row, other):
    """Whether a row lets the column have less than another row does, the lesser held column if as much."""
    ours = table[row][-1] * table[other][column]
    others = table[other][-1] * table[row][column]
    return ours < others or (ours == others and held[row] < held[other])


def leaving(table, held, column):
    """The row that lets the column have the least."""
    best = None
    for row in range(len(held)):
        if table[row][column] > 0 and (best is None or is_tighter(table, held, column, row, best)):
            best = row
    return best


def exchanged(table, bottom, row, column):
    """The table in which the row holds the column; its bottom is what stood there. Each division leaves nothing."""
    ours = table[row]
    pivot = ours[column]
    return [
        line if place == row else [
            (entry * pivot - line[column] * mine) // bottom for entry, mine in zip(line, ours)
        ]
        for place, line in enumerate(table)
    ]


def most_gain(gains, rows, limits):
    """A tuple (weights, rates, bottom), both lists over this bottom, all of them 0 or above.

    Of each row the entries multiplied by the weights come to no more than its limit, and the gains
    multiplied by the weights to the most. For each weight the entries multiplied by the rates of
    their rows come to no less than its gain, and the limits multiplied by the rates to the same
    most. Limits are 0 or above, entries above 0.
    """
    table = first_table(gains, rows, limits)
    held = [len(gains) + row for row in range(len(rows))]
    bottom = 1
    column = entering(table)
    while column is not None:
        row = leaving(table, held, column)
        table, bottom = exchanged(table, bottom, row, column), table[row][column]
        held[row] = column
        column = entering(table)
    weights = [0 for gain in gains]
    for row, column in enumerate(held):
        if column < len(weights):
            weights[column] = table[row][-1]
    rates = [-gain for gain in table[-1][len(gains):-1]]
    return (weights, rates, bottom)
