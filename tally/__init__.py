"""Tally: games scored by told rules, and what may still come."""
