"""Rounds: what comes back to itself, and what becomes of it."""
