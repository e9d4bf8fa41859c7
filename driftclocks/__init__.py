"""Lives by drifting clocks: what can be known of true time from clocks that are never right."""
