"""Againbook: a run kept as a book, and brought up to date."""
