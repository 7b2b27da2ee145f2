"""Toldmoment: tables that are made of a source's tables, each at one told moment."""
