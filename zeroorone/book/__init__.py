"""Books of claims with papers and steps."""
