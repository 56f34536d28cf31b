"""What is asked of a site on the way to a text."""

from pagemaker.facts import fact


class Asked:
    """Facts of a site, kept in the order in which each was asked first.

    What fills pages and parts asks its facts here and nowhere else, so what was read is known without a second telling.
    """

    def __init__(self, site):
        self.of_site = site
        self.value_by = {}

    def ask(self, key):
        """The fact of this key."""
        if key not in self.value_by:
            self.value_by[key] = fact(self.of_site, key)
        return self.value_by[key]

    def reads(self):
        """The list of pairs (key, value) of all that was asked."""
        return [(key, value) for key, value in self.value_by.items()]
