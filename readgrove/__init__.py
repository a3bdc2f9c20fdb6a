"""Readgrove: any grammar, any row of words, with papers."""
