"""Tablecover: nets of gates laid out of small tables."""
