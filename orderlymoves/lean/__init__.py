"""The fewest accesses that can stand for a straight stretch."""
