"""Symmetric sums with two letters, one for each shape."""
