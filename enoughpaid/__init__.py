"""Enoughpaid: prices that stay bounded."""
