"""Bitferry: bits of a word moved and summed by rows of word deeds."""
