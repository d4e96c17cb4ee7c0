"""Joinhall: patterns over tables, answered within told bounds."""
