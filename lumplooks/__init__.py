"""Recalled parts that were exchanged in shops, and the fewest looks that settle where they are."""
