"""Mendsontime: letters told again in time through losses."""
