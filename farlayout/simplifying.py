"""Documents with fewer rows that are laid in the same way."""

from farlayout.documents import MOST_NEST, Doc, parts_of, rows_in, with_parts
from farlayout.pools import Pool


def simplified_doc(doc):
    """Returns a document that is laid like another one, for every width and in every place."""
    pool = Pool()
    numbers = []
    for row in rows_in(doc):
        parts = [numbers[part] for part in parts_of(row)]
        numbers.append(_replaced(pool, with_parts(row, parts)))
    return Doc(pool.rows_below(numbers[-1]))


def _replaced(pool, row):
    """Returns the number of the row that replaces a row, the parts of which are already replaced."""
    if row[0] == "cat":
        return _replaced_cat(pool, row)
    if row[0] in ("nest", "align", "group"):
        return _replaced_single(pool, row)
    return pool.add(row)


def _replaced_cat(pool, row):
    parts = [part for part in row[1] if not pool.are_bare[part] or pool.wides[part] > 0]
    if not parts:
        return pool.add(("text", ""))
    if len(parts) == 1:
        return parts[0]
    return pool.add(("cat", parts))


def _replaced_single(pool, row):
    kind = row[0]
    part = row[-1]
    below = pool.rows[part]
    if pool.are_bare[part] or kind == "nest" and row[1] == 0:
        return part
    if kind != "group" and below[0] == "align":
        return part
    if kind == "nest" and below[0] == "nest" and row[1] + below[1] <= MOST_NEST:
        return pool.add(("nest", row[1] + below[1], below[2]))
    if kind == "group" and (pool.are_hard[part] or not pool.are_direct[part]):
        return part
    return pool.add(row)
