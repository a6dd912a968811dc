"""Machines that see the order of values, and what they do on all logs."""
