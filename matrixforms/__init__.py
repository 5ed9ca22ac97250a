"""Formulas of matrices, decided for all matrices of all sizes."""
