"""Spinsum: rows turned into their worths at the powers of a root, and back."""
