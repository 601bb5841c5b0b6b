"""Lessways: code over unknown fractions, decided for all of them."""
