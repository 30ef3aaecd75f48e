"""Texts of values and books, and a shell."""
