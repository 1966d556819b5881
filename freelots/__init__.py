"""Rows of whole numbers, parted into lots that hold nothing spare."""
