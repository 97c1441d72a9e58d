"""Takersrest: takers, lots and costs that grow with the load."""
