"""Waitwords: words whose kinds wait for kinds beside them."""
