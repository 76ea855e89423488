"""Operators on symmetric sums that go along with the sums of shapes."""
