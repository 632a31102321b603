"""Fogfleet: ships at sea and what is surely known of them."""
