"""Spaces of polynomials that are made by derivatives, and the sums that belong to them."""
