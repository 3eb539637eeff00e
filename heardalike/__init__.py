"""Heard alike: documents that many change at once, each shown by what was heard alone."""
