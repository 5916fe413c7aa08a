"""Meetlots: lots that are closed under meeting, and rules that tell them."""
