"""Lots of moments, each known by its slice."""
