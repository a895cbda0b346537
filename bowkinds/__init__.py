"""Which kinds of layers need no more layers than their greatest crowd has bows."""
