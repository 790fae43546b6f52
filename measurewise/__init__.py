"""Measurewise: a language of quantities whose units are found."""
