"""Everygrain: a store of points in time that answers as a plain list, whatever cuts it."""
