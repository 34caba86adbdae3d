"""Crossmeans: plots parted in several ways, and means that hang on no order."""
