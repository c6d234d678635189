"""Numbers whose figures go on without end to the left."""
