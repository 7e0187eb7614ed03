"""Texts of codes, stretches and programs."""
