"""Glowcells: light on a floor of cells, kept right while lamps and walls come and go."""
