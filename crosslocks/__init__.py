"""Crosslocks: locks that two waters share, and what a standing tells of all that went by."""
