"""Loghall: a house of logs."""
