"""Cornerdoors: triangles with three marks, and walks through doors."""
