"""Tailyard: all parts of a text, its tails in order, and the least machine of them."""
