"""Oneglance: dealings over shared boxes that are tried again."""
