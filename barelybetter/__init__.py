"""Judgements about differences too small to notice."""
