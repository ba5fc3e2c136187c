"""Which rules of arithmetic hold in which floating-point formats."""
