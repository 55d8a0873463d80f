"""Closestfit: templates that compute, and the closest fit of each use."""
