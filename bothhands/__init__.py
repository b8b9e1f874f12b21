"""Bothhands: text that runs both ways."""
