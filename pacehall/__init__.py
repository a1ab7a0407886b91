"""Pacehall: views of one flat floor."""
