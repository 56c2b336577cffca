"""What can be left out: runs and what they reach."""
