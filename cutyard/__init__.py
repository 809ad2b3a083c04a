"""Cutyard: whole-number plans, answered with papers."""
