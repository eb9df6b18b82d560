"""Crookroad: bent lines, walked again and again, and who comes back on them."""
