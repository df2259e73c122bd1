"""Queueloops: queues made of loops of told lengths."""
