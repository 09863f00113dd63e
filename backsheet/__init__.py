"""Backsheet: a sheet of cells in which computed cells can be edited too."""
