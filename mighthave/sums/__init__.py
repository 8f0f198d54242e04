"""Sums of worths: at a moment, the greatest and the least over a lot, any number between."""
