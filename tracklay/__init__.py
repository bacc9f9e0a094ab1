"""Tracklay: netlists laid on a row of slots and tracks."""
