"""Mirrorwood: cards that turn their neighbours as they go."""
