"""Inkghost: panels of electronic paper whose cells keep ghosts of old pictures until they are flashed."""
