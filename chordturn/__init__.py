"""Chord diagrams, two-row tableaux and their rotation."""
