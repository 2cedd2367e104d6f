"""Shuffletold: orders drawn at random, told by exact shares."""
