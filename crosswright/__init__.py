"""Crosswright: a house of crossed words."""
