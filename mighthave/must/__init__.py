"""What must have been on each way."""
