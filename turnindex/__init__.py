"""Turnindex: indexes by transforms."""
