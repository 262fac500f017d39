"""startbits: a serial line between two unlike clocks."""
