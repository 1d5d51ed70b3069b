"""Shelfway: rows of volumes, and two ways to tell how far they are out of order."""
