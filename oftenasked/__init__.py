"""Oftenasked: services whose asks may come again."""
