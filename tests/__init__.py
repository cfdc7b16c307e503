"""The tests of evenstrand."""
