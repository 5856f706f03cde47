"""Grey pictures packed without loss into checked packets, and read back slice by slice."""
