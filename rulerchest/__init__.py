"""Rulerchest: which tools reach a point."""
