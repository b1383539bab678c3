"""Rowsmith: rows of a machine chosen for trees of sums."""
