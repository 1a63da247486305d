"""Texts of several hands, with marks that stay."""
