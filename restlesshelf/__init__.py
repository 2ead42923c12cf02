"""Restlesshelf: a computer whose memory moves when it is touched."""
