"""Cablehouse: a house that sends words by wire in code."""
