"""Usewarden: rules of use, watched and taken off."""
