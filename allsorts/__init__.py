"""Allsorts: sayings of many sorts, decided."""
