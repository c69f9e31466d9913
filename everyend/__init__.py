"""Everyend: all ends of all runs of a small language, and what they cost."""
