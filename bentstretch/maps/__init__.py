"""Maps: how they are written, and what their values tell."""
