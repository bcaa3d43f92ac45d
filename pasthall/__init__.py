"""Pasthall: a version store whose every answer carries a paper."""
