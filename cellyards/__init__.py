"""Cellyards: orders that a yard of cells can make, for every number of wagons."""
