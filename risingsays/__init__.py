"""Risingsays: linear sayings told once and meant for every rising choice of places."""
