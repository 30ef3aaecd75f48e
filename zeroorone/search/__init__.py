"""Searches for bases."""
