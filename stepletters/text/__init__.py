"""Texts that tell values."""
