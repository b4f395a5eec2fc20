"""Systems that are made from plans, and systems that are made from systems."""
