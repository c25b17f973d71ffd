"""Changesums: changes told back from power sums."""
