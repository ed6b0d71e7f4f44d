"""Samerounds: webs found back from told rounds."""
