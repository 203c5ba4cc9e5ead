"""Cellscript: a language of cells that turn."""
