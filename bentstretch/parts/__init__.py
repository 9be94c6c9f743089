"""Partings of a stretch, and the words that a map makes of their parts."""
