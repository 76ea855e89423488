"""Labelled paths, and where they touch the slope."""
