"""Sealed-bid timber auctions and contract billing."""
