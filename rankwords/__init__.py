"""Words over a small field, weighed by rank."""
