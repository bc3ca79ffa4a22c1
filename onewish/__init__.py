"""Onewish: buyings told by one wish, or a round that bars it."""
