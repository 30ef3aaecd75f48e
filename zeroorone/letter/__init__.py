"""Polys: polynomials in one letter."""
