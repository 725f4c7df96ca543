"""notchledger: numbers kept on strips that can only be cut."""
