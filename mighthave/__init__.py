"""Mighthave: what could have been, and who can tell."""
