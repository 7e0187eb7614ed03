"""Programs of threads, their runs, and all that they can do."""
