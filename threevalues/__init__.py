"""Threevalues: do some tables of three values make all?"""
