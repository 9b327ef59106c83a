"""Wakingacts: acts whose provisions wake and change one another."""
