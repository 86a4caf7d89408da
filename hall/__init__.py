"""Markpanel: works marked by several hands, reckoned exactly."""
