"""Pages and sources written as texts."""


def show_pages(pages):
    """The pages as a text: each line behind a bar, each page with an equals sign behind it."""
    return "".join([_page_text(page) for page in pages])


def show_source(source):
    """The source as a text: its lines, each with a line end."""
    return "".join([line + "\n" for line in source])


def _page_text(page):
    return "".join(["|" + line + "\n" for line in page]) + "=\n"
