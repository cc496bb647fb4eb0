"""Pinchfold: papers of hidden faces, folded of a strip and pinched open."""
