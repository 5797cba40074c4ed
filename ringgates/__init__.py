"""Ringgates: rings of trust, gates between them, and holes."""
