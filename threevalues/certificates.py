"""Certificates: answers with what proves them to the checker."""

from threevalues.making import kept, one_place_steps, onto_names, steps
from threevalues.relations import leads_out


def certify_box(box):
    """A claim that the box makes all, or else that it keeps a relation, and its certificate."""
    words = kept(box)
    if len(words) > 0:
        return ("kept", box.text, words[0]), ()
    _, told = one_place_steps(box)
    return ("all", box.text, onto_names(box)[0]), tuple(told)


def certify_table(table, word):
    """The claim that the table does not keep the relation, and its certificate; None if it keeps it."""
    rows = leads_out(table, word)
    if rows is None:
        return None
    return ("out", table, word, rows), ()


def certify_made(box, table):
    """The claim that the box makes the table of one place, and its certificate; None if it does not make it."""
    told = steps(box, table)
    if told is None:
        return None
    return ("made", box.text, table), told
