"""Threefree: webs in which no three points are all tied."""
