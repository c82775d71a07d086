"""Putinside: boxes that are put into bigger boxes beside them."""
