"""Walkers who never meet, counted and numbered."""
