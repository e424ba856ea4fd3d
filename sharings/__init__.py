"""Sharings: all ways to part a set of things in shares."""
