"""Leastlap: arrays laid over one another as far as the loops allow."""
