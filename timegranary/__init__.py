"""Timegranary: a store of points in time."""
