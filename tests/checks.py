"""What several tests check alike."""


def check_refused(test, error, fields, deed, *handed, **named):
    """The deed is refused with just this class and these fields; repr tells 1 from True, and a tuple from a list."""
    with test.assertRaises(error) as caught:
        deed(*handed, **named)
    test.assertIs(type(caught.exception), error, (handed, named))
    test.assertEqual(repr(vars(caught.exception)), repr(fields), (handed, named))
    return caught.exception


def state_of(site):
    """All that a Site has, as a value that can be compared."""
    sources = [(path, site.source(path)) for path in site.paths()]
    templates = [(name, site.template(name)) for name in site.names()]
    return (sources, templates, site.today(), site.most(), len(site), repr(site))
