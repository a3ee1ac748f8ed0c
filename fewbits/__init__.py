"""Fewbits: numbers in few bits."""
