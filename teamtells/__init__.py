"""How many threads can agree by an instruction. Import each name from its own module."""
