"""Pagemaker: a site made of sources and templates, and made anew least."""
