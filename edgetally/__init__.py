"""Edgetally: tables of counts with kept sums."""
