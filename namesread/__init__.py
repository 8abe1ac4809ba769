"""Scientific names as texts: agreed, folded, read, written, shortened in papers."""
