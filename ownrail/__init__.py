"""Ownrail: engines that carry their rails with them."""
