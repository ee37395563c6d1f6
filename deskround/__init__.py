"""Deskround: files that go through many hands, and never get stuck."""
