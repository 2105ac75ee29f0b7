"""Templates: their shapes, their source, and how they are laid out."""
