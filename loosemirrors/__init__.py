"""Loosemirrors: rows of mirrors whose places nobody knows."""
