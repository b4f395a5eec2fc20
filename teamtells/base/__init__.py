"""Kinds of objects, and what all modules need to judge values."""
