"""Whilebusy: signs that something is under way."""
