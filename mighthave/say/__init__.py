"""What is said of a run: tests of one hand, and sayings of the whole."""
