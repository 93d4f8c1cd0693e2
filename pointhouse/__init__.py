"""Pointhouse: drawings made step by step over exact numbers, and a house that keeps them."""
