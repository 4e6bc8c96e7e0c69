"""Vatmatch: shades mixed from few stocks, each measure of stuff traced."""
