"""Nestsums: statistics of rows by sums within sums."""
