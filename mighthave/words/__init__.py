"""What is written and read, and a desk that is asked by rows of words."""
