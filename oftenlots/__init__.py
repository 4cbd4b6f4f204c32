"""Oftenlots: things often bought together, kept while days come and go."""
