"""Wayorring: least test inputs with papers."""
