"""What a stretch does by itself: its ways, and the places that they cover."""
