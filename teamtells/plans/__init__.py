"""Plans, and which team a thread can tell to have gone first."""
