"""Ridgespans: rows that are shifted and laid over one another."""
