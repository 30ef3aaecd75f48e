"""The checker of claims and papers, and what it reckons with."""
