"""Sayings about points and walls, and the closed sheets that derive them."""
