"""Tests of Openshares, by the numbers of the promises in DOC.md."""
