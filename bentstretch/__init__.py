"""Bentstretch: maps of a stretch made of straight pieces."""
