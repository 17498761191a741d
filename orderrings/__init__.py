"""Orderrings: letters to groups that share people."""
