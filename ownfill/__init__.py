"""Ownfill: programs that put one text into templates."""
