"""Figuretell: numbers told by their figures."""
