"""Fewstones: loads laid with few stones on two pans."""
