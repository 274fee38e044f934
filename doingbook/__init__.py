"""Doingbook: what comes of doing, read off from what was only seen."""
