"""Papers that a judge walks: what might have been."""
