"""Finishes: the rows of throws by which a count comes down to nought."""

from tally.errors import TooMany

MOST_ROWS = 2000


def finishes(down, count, left):
    throws = down[3]
    refuse_many(len(throws), left)
    found = []
    # The rows of one length, in their order, with what they leave of the count.
    rows = [((), count)]
    for length in range(left):
        longer = []
        for row in rows:
            for throw in throws:
                names = row[0] + (throw[0],)
                rest = row[1] - throw[1]
                if rest == 0 and throw[2]:
                    found.append(names)
                if rest > 0:
                    longer.append((names, rest))
        rows = longer
    return found


def refuse_many(throw_count, left):
    rows = 1
    for place in range(left):
        rows = rows * throw_count
    if rows > MOST_ROWS:
        raise TooMany("there are too many rows of throws")
