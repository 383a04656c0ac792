"""Registerways: all register allocations of a program, numbered and connected."""
