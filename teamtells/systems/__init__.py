"""Systems of programs, their runs, and whether they are right."""
