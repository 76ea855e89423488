"""Words, their compositions, and the sums that they make."""
