"""Rowscribe: rows written to words of a machine, and told back."""
