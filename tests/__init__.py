"""The tests of lumplooks."""
