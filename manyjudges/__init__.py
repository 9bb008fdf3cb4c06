"""Judges who say yes and no to sayings."""
