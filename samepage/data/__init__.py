"""Data: values, their notation, and the records of a shape."""
