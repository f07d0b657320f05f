"""Towers whose even letters have the step 0, and whether classes end."""
