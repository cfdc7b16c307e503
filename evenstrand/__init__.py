"""Evenstrand: one even strand drawn from many short wisps."""
