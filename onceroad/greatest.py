"""Greatest pairs: rows of forests are turned, one behind another, until there is none."""

from onceroad.forests import Forest
from onceroad.pairs import told_pairs
from onceroad.rows import turned


def greatest(web):
    return greatest_from(web, [])[0]


def count_of(web):
    return len(greatest(web))


def greatest_from(web, pairs):
    now = told_pairs(web, pairs)
    rows = []
    row = Forest(web, now).row()
    while row is not None:
        rows.append(row)
        now = turned(web, now, row)
        row = Forest(web, now).row()
    return (now, rows)
