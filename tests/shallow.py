"""Calls that may not stand deep within each other, so that a test tells what goes on by calls."""

import sys


def depth_here():
    """Return how many calls stand within each other here."""
    frame = sys._getframe()
    many = 0
    while frame is not None:
        many += 1
        frame = frame.f_back
    return many


def within(many, call):
    """Return what a function returns that is called where only so many calls may stand within each other."""
    before = sys.getrecursionlimit()
    sys.setrecursionlimit(depth_here() + many)
    try:
        return call()
    finally:
        sys.setrecursionlimit(before)
