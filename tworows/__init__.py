"""Tworows: claims about one table, decided by one row, two rows or a certificate."""
