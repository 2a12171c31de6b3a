"""Copykin: copies of a lost work, and which were made of which."""
