"""Leastbook: books whose words tell pages, set as early as can be."""
