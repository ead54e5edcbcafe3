"""Signsmooth: tables that never add a change of sign."""
