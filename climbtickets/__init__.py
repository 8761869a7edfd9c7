"""Tickets up and down, and free climbs."""
