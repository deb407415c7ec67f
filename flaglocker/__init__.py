"""Flaglocker: a signal tower, few flags, and what can hang at once."""
