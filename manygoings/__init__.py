"""Manygoings: one pile kept in pieces, gone on with many times."""
