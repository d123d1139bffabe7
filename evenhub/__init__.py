"""Evenhub: weights on wheels, told exactly."""
