"""Statements of whole numbers, told with certificates, kept in houses."""
