"""A desk on which symmetric sums are changed and questions are kept, and its log."""
