"""Symmetric sums, and letters put into them."""
