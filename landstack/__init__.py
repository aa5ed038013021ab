"""Landstack: a code host, from lines of text to changes that land, things that are built and logs that stay."""
