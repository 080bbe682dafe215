"""Documents that are laid alike."""

from farlayout.checks import check_doc, check_number, check_width
from farlayout.compares import difference_of
from farlayout.documents import Doc
from farlayout.errors import InvalidBound, LimitExceeded
from farlayout.facts import facts_of
from farlayout.laid import Laid
from farlayout.measures import node_total
from farlayout.pieces import told, written_out
from farlayout.simplifying import simplified_doc
from farlayout.totals import forget_many

MOST_PLACE = 100
MOST_PARTING = 6
MOST_NODES = 200


def simplified(doc):
    """Returns a document that is laid like this one, for every width and in every place."""
    check_doc(doc)
    return simplified_doc(doc)


def is_simple(doc):
    """Tells whether a document is equal to its simplified one."""
    return simplified(doc) == doc


def text_at(doc, width, column, indentation, ahead):
    """Returns the text that a document adds as a part of a larger one, in no flat group."""
    facts = facts_of(doc)
    check_width(width)
    check_number(column, 0, MOST_PLACE, "column")
    check_number(indentation, 0, MOST_PLACE, "indentation")
    check_number(ahead, 0, MOST_PLACE, "ahead")
    forget_many(facts)
    return written_out(Laid(facts.last, width, column, indentation, ahead))


def parting_place(one, other, most):
    """Returns the least (width, column, indentation, ahead) with which the texts of two documents differ, or None."""
    for doc, name in ((one, "one"), (other, "other")):
        if not isinstance(doc, Doc):
            raise InvalidBound(name)
    check_number(most, 1, MOST_PARTING, "most")
    if max(node_total(one), node_total(other)) > MOST_NODES:
        raise LimitExceeded(MOST_NODES)
    if simplified_doc(one) == simplified_doc(other):
        return None
    return _first_parting(facts_of(one).last, facts_of(other).last, most)


def _first_parting(row, other_row, most):
    alike = {}
    # Places in which both texts are the same again.
    known = {}
    for width in range(1, most + 1):
        for column in range(width + 2):
            for indentation in range(width + 2):
                for ahead in range(width + 2):
                    laid = Laid(row, width, column, indentation, ahead)
                    other = Laid(other_row, width, column, indentation, ahead)
                    key = (_likeness(laid), _likeness(other))
                    if key not in known and difference_of(laid, other, alike) is not None:
                        return (width, column, indentation, ahead)
                    known[key] = True
    return None


def _likeness(laid):
    return told(laid.row, laid.situation, laid.column, laid.indentation)
