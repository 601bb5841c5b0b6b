"""Checks of what is passed: each raises the error that the document names."""

from lessways.errors import BadCount, BadLimit, NotRow, NoUnknown
from lessways.rows import Row
from lessways.shares import is_integer
from lessways.terms import UNKNOWNS


def check_count(value):
    """That a value is a number of unknowns that there can be."""
    if not is_integer(value) or value < 1 or value > UNKNOWNS:
        raise BadCount(value)


def check_unknown(k, unknowns):
    """That there is an unknown k where there are so many."""
    if not is_integer(k) or k < 0 or k >= unknowns:
        raise NoUnknown(k)


def check_limit(value, greatest):
    """That a limit of an asker is an integer from 1 to the greatest one."""
    if not is_integer(value) or value < 1 or value > greatest:
        raise BadLimit(value)


def check_term(term, unknowns):
    """That a term has no unknowns but the first so many."""
    for k, times in enumerate(term.times):
        if k >= unknowns and times != 0:
            raise NoUnknown(k)


def check_rows(things, unknowns):
    """That all things are rows that have no unknowns but the first so many."""
    for thing in things:
        if not isinstance(thing, Row):
            raise NotRow(thing)
        check_term(thing.term, unknowns)
