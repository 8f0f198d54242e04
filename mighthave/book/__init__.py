"""A run that grows, with sayings of it by names."""
