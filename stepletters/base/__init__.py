"""Ratios, tables and what both are worked out with."""
