"""Plans that are found for a kind, and the levels of kinds."""
