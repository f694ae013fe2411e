"""Smalltowns: reports that hide what is too small, step after step."""
