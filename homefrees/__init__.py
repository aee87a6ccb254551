"""Homefrees: a memory allocator on several sockets, step by step."""
