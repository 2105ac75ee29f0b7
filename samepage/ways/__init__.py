"""The ways through a template."""
