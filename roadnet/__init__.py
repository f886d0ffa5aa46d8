"""Roadnet: a whole net over bad roads, each layer upon the promise of the one beneath."""
