"""Tests of teamtells, one file for each part of the document."""
