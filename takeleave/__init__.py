"""Takeleave: words that take from a stack and leave on it."""
