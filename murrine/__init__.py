"""Murrine: glass rods with pictures in their cross-section."""
