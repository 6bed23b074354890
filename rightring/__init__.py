"""A ring of lanes that rights itself."""
