"""Outlineward: programs that bear claims at their places."""
