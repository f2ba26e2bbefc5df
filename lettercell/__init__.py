"""Lettercell: a cellar of letters that no fall can muddle."""
