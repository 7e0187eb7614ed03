"""What no orderly program can see: rewriting the code of one thread."""
