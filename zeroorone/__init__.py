"""Zeroorone: algebra in which every answer has a paper."""
