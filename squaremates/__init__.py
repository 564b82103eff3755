"""Squaremates: squares that go together."""
