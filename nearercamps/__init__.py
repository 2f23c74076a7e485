"""Nearercamps: programs whose hands move nearer, by shares nobody knows."""
