"""Tests of tracklay; run them with `python3 -m unittest discover -s tests -t .` or `.ci/run`."""
