"""Texts of kinds, plans and programs, and a shell that works with them."""
