"""Wallbooks: walls between rivals' papers."""
