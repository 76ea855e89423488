"""Arcs between things, and the sums of their colourings."""
