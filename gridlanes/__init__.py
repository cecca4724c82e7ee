"""Gridlanes: boxes in columns and rows, for all sizes."""
