"""Glasslayers: trees of folders seen through panes."""
