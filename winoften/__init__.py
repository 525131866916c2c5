"""Winoften: who can win how often when one thing goes to one of several bidders."""
