"""A desk that keeps towers and what is claimed of them."""
