"""Rowbreadth: rows of numbers on a machine of any breadth."""
