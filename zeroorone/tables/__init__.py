"""Tables over a ground, tables of integers, and wishes of tables."""
