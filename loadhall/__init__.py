"""Loadhall: modules that load one another."""
