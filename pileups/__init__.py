"""Pileups: events that wait for one another, and how much can pile up in all runs."""
