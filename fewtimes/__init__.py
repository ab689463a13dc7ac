"""Fewtimes: products of tables and rows of numbers with fewer multiplyings."""
