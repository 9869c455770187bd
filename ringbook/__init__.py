"""Ringbook: rings over each one-way road just once, counted, numbered and led back."""
