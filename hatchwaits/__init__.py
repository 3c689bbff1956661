"""Hatchwaits: a house, its hands and its line, beat by beat."""
