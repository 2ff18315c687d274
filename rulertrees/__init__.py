"""Rulertrees: relations of degree one in each unknown, and what can be told of them."""
