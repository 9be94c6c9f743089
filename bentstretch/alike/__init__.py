"""Maps that are alike by a turn of their stretch."""
