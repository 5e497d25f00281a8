"""Forkspan: a runner for many cores."""
