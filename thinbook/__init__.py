"""Thinbook: a book of readings that ages, and tells just what it still knows."""
