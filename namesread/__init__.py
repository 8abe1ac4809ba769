"""Scientific names as texts: agreed, folded and read."""
