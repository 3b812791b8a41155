"""The tests of rowscribe."""
