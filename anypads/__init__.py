"""Anypads: where fields lie on all machines at once."""
