"""Doors that bar the last person who went through."""
