"""Sites: sources at paths, templates by names, the day, and how many pages a part has."""

from pagemaker.errors import BadName, BadNumber, BadPath, BadSource, BadTemplate, NoName, NoPath, Taken, TooMany
from pagemaker.limits import MOST, PART_PAGES, SITE_SOURCES, SITE_TEMPLATES, SOURCE_OLDS
from pagemaker.sources import wrong_part
from pagemaker.templates import is_template
from pagemaker.things import own_copy
from pagemaker.words import is_day, is_name, is_number, is_path


class Site:
    """Sources and templates are tuples throughout, so they are kept and told as they are."""

    def __init__(self, *, today=0, most=MOST):
        self.source_at = {}
        self.template_by = {}
        self.day_now = today
        self.part_most = most

    def put(self, path, source):
        """That source stands there from now on; refused with BadPath, BadSource, TooMany."""
        if not is_path(path):
            raise BadPath(own_copy(path))
        part = wrong_part(source)
        if part is not None:
            raise BadSource(part)
        if path not in self.source_at and len(self.source_at) >= SITE_SOURCES:
            raise TooMany(SITE_SOURCES)
        self.source_at[path] = source

    def drop(self, path):
        """The source there is gone; refused with NoPath."""
        self.source(path)
        del self.source_at[path]

    def move(self, path, to):
        """The source stands at to, and path is among its olds; refused with NoPath, BadPath, Taken, TooMany."""
        title, day, draft, tags, under, olds, rows = self.source(path)
        if not is_path(to):
            raise BadPath(own_copy(to))
        if to in self.source_at:
            raise Taken(to)
        moved_olds = tuple(sorted(set(olds + (path,)) - {to}))
        if len(moved_olds) > SOURCE_OLDS:
            raise TooMany(SOURCE_OLDS)
        del self.source_at[path]
        self.source_at[to] = (title, day, draft, tags, under, moved_olds, rows)

    def hang(self, name, template):
        """The template is called so from now on; refused with BadName, BadTemplate, TooMany."""
        if not is_name(name):
            raise BadName(own_copy(name))
        if not is_template(template):
            raise BadTemplate(name)
        if name not in self.template_by and len(self.template_by) >= SITE_TEMPLATES:
            raise TooMany(SITE_TEMPLATES)
        self.template_by[name] = template

    def unhang(self, name):
        """No template is called so any more; refused with NoName."""
        self.template(name)
        del self.template_by[name]

    def set_today(self, day):
        """That day is today; refused with BadNumber."""
        if not is_day(day):
            raise BadNumber(own_copy(day))
        self.day_now = day

    def set_most(self, many):
        """Parts have so many pages; refused with BadNumber."""
        if not is_number(many) or not 1 <= many <= PART_PAGES:
            raise BadNumber(own_copy(many))
        self.part_most = many

    def paths(self):
        """The rising list of the paths of all sources."""
        return sorted(self.source_at)

    def names(self):
        """The rising list of the names of all templates."""
        return sorted(self.template_by)

    def source(self, path):
        """The source there; refused with NoPath."""
        if not is_path(path) or path not in self.source_at:
            raise NoPath(own_copy(path))
        return self.source_at[path]

    def template(self, name):
        """The template that is called so; refused with NoName."""
        if not is_name(name) or name not in self.template_by:
            raise NoName(own_copy(name))
        return self.template_by[name]

    def today(self):
        """The day that is today."""
        return self.day_now

    def most(self):
        """How many pages a part has."""
        return self.part_most

    def like(self):
        """A Site of its own that has the same of all."""
        other = Site(today=self.day_now, most=self.part_most)
        other.source_at = dict(self.source_at)
        other.template_by = dict(self.template_by)
        return other

    def pages(self):
        """The list of the paths of all pages, the greater day first, of like days the lesser path."""
        ranks = [
            (-source[1], path) for path, source in self.source_at.items()
            if not source[2] and source[1] <= self.day_now
        ]
        return [path for rank, path in sorted(ranks)]

    def tags(self):
        """The rising list of all pages' tags."""
        return sorted({tag for path in self.pages() for tag in self.source_at[path][3]})

    def pages_of(self, tag):
        """Those of the pages that have the tag."""
        return [path for path in self.pages() if tag in self.source_at[path][3]]

    def lead(self, path):
        """The path itself where there's a page, else the first page that has it among its olds, else None."""
        pages = self.pages()
        if path in pages:
            return path
        led = [page for page in pages if path in self.source_at[page][5]]
        return led[0] if led else None

    def __len__(self):
        return len(self.source_at)

    def __eq__(self, other):
        return (
            isinstance(other, Site) and self.source_at == other.source_at and self.template_by == other.template_by
            and self.day_now == other.day_now and self.part_most == other.part_most
        )

    def __repr__(self):
        return f"Site({len(self.source_at)} sources, {len(self.template_by)} templates, day {self.day_now})"
