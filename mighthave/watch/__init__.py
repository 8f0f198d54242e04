"""A watch that hears deeds in whatever order, and tells the least moment at which all tests are had."""
