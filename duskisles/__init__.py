"""Duskisles: parts of a chip go dark while the rest works."""
