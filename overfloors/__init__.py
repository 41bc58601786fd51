"""Overfloors: endless floors laid over one another."""
