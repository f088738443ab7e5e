"""The tests of tiedcut: python3 -m unittest, from the folder above this one."""
