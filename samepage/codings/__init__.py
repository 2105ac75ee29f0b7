"""The codings of holes, the verdict on a template, and why nothing smaller works."""
