"""Farword: a spacecraft's computer and its ground."""
