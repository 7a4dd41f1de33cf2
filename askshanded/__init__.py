"""Askshanded: asks handed at once to one of several services."""
