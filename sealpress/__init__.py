"""Sealpress: pages pressed from sheets with holes, whose shape no value changes."""
