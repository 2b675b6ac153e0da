"""Rings of beads of a few colours."""
