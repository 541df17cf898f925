"""Ledgerloom: a shared workbook."""
