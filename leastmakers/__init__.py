"""Leastmakers: numbers that come round, and the least that makes them."""
