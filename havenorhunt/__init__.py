"""Havenorhunt: searchers, runners and sentences on graphs."""
