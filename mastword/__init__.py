"""Mastword: signs handed on along a line of masts."""
