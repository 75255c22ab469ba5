"""Commonform: the nearest form that letters have in common."""
