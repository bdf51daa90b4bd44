"""Spentblocks: how long a store of wearing blocks can be sure to serve."""
