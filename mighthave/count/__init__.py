"""How many moments a lot has, and which."""
