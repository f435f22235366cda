"""Talks by letters, drawn upright or barred by a crown."""
