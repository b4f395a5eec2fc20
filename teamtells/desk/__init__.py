"""Desks: kinds by names, and pins that hold at all times."""
