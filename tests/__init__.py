"""The tests of logdelve."""
