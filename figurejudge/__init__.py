"""Figurejudge: sayings about rows that never end."""
