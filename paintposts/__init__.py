"""Painters along an endless fence: who stops where, when and because of whom."""
