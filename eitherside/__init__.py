"""Sums that either side may answer."""
