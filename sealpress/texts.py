"""Pages and pairs told as texts."""

from sealpress.words import worded


def dotted(text):
    """A text, worded, with a dot ahead, so that one without signs can be seen."""
    return "." + worded(text)


def content_told(kind, content):
    """What an attr is told with."""
    if kind == "row":
        return ",".join([dotted(item) for item in content])
    if kind == "talk":
        return ",".join([part[0] + dotted(part[1]) for part in content])
    return dotted(content)


def row_text(row):
    """A row of a page."""
    if row[0] == "text":
        return "text " + dotted(row[1])
    if row[0] == "out":
        return "out"
    attrs = [" " + name + ":" + kind + ":" + content_told(kind, content) for name, kind, content in row[2]]
    return "box " + row[1] + "".join(attrs)


def page_text(page):
    """The rows of a page, parted by line feeds."""
    return "\n".join([row_text(row) for row in page])


def pairs_text(pairs):
    """Tuples of texts, parted by a ; and a blank, the texts in them by blanks; none where there are none."""
    return "; ".join([" ".join(pair) for pair in pairs]) if pairs else "none"
