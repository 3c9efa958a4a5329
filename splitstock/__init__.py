"""Splitstock: splitting the largest piece and undoing the smallest split."""
