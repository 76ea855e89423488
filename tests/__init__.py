"""The tests of the package armlegs."""
