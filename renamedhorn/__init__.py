"""Renamedhorn: clauses made plain by turning names over."""
