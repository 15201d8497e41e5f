"""Oneseat: a seat that goes one way round."""
