"""Algebras of told products, their least towers, and what counts the letters of these."""
