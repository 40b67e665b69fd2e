"""Sparenext: spare next houses told ahead for when a tie or a house falls."""
