"""Grounds and their numbers."""
