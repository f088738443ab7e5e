"""Tiedcut: forests whose points are tied and cut while they are asked."""
