"""Texts of shapes, polynomials and sums, and a shell that reads lines."""
