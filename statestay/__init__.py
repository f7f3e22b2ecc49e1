"""Statestay: state that stays with its part when a screen is drawn again."""
