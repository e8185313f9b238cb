"""Kernelstack: a proof kernel, from terms to checked files."""
