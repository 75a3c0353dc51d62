"""Keptnights: a chain of hotels, and what is kept in every course."""
