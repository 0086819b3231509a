"""Laprunners: runners on a ring, with exact times of passes, meetings and orders."""
