"""How much tables mix."""
