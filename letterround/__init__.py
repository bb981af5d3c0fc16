"""Letterround: rounds and errands through a village without rings."""
