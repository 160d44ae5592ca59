"""Turnhall: many hands on one book, as if one behind the other."""
