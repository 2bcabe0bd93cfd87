"""Everyspan: endless rows of days in which any so many days have at least and at most so much."""
