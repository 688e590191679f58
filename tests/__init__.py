"""The tests of tworows: one file for each group of promises of the document."""
