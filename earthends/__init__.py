"""Earthends: leaks of a long cable found from its two ends."""
