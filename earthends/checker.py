"""The checker: whether a claim is taken with its paper."""

from earthends.checkcuts import cuts_hold
from earthends.checkdays import days_hold
from earthends.checklamp import lamp_holds
from earthends.checkleaks import leaks_hold


def holds(claim, paper):
    """Whether a claim is taken with its paper, both of any kind: no part takes the words of another."""
    return leaks_hold(claim, paper) or cuts_hold(claim, paper) or lamp_holds(claim, paper) or days_hold(claim, paper)
