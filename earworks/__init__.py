"""Earworks: webs put together ring by ring and way by way, or the point or tie that parts them."""
