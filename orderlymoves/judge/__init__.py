"""What a stretch does beside another one, and what may stand for it."""
