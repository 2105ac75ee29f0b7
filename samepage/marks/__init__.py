"""Marks: pages in which some texts are not known yet."""
