"""Firstbore: who bore it first, told by meetings and looks."""
