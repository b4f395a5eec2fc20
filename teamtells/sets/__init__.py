"""Several kinds that threads can use together."""
