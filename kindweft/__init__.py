"""Kindweft: sayings of how things stand, woven over a table of kinds."""
