"""Names, values, code and stretches."""
