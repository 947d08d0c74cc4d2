"""Codepick: the cheapest instructions for trees."""
