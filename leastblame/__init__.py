"""Leastblame: which parts must be broken, and what to look at next."""
