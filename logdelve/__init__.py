"""Logdelve: typed rows from many sources, kept in pieces, asked by a small piped language."""
