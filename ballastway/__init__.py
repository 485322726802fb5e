"""Ballastway: loads over bridges that bear so much."""
