"""Tests of the package havenorhunt."""
