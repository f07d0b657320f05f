"""Towers that are built by a rule."""
