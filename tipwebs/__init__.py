"""Tipwebs: webs in which two are tied just if their weights together come to a bound."""
