"""Elderhouse: a small language of houses, each with one elder at most."""
