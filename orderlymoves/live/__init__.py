"""Pieces of whole programs, and a desk on which a program is rewritten."""
