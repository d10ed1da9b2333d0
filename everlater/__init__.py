"""Everlater: a few marks that tell for ever what was written later."""
