"""Towers: letters, each with its step."""
