"""Polynomials in q and t, shapes, traces and tableaux."""
