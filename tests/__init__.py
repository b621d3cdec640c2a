"""Tests of steadymixes, by the promises of its document."""
