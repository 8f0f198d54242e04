"""Runs of hands without a common clock: their deeds, moments and ways."""
