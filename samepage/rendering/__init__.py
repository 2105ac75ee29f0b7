"""Rendering: from a source and a record to the page."""
