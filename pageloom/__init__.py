"""Pageloom: a language of pages."""
