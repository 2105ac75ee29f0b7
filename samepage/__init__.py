"""Samepage: templates whose pages always read as they were meant."""
