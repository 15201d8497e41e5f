"""Tests of oneseat."""
