"""Loosebeats: machines of one beat, run by worths that come at unlike paces."""
