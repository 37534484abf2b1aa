"""Onlywith: dealings that are done only with partners."""
