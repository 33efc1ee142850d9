"""Pictures painted on a grid of cells."""
