"""Planwell: a language for plans, solved in exact fractions."""
