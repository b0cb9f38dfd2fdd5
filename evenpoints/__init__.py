"""Evenpoints: how evenly points lie in a box, and papers that show it."""
