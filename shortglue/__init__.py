"""Shortglue: shortest texts that hold all told pieces."""
