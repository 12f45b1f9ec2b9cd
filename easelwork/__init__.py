"""Easelwork: an image editor in layers and tiles, with branching history and a crash-safe file."""
