"""Pages written as texts."""

from sealpress.errors import NoPage
from sealpress.pages import first_fault
from sealpress.places import put


def talked_text(part):
    """The text of a word or a said text of a talk."""
    return part[1] if part[0] == "word" else "'" + put("said", part[1]) + "'"


def content_text(kind, content):
    """The text of what an attr is told with, and of the signs around it."""
    if kind == "bare":
        return ":" + put("bare", content)
    if kind == "quoted":
        return "=\"" + put("quoted", content) + "\""
    if kind == "row":
        return "(" + ",".join([put("row", item) for item in content]) + ")"
    return "!\"" + " ".join([talked_text(part) for part in content]) + "\""


def box_text(row):
    """The text of a row that begins a box."""
    attrs = [" " + name + content_text(kind, content) for name, kind, content in row[2]]
    return "<" + row[1] + "".join(attrs) + ">"


def written(page):
    """A text that is read to just this page; NoPage of what is none."""
    fault = first_fault(page)
    if fault is not None:
        raise NoPage(fault)
    texts = []
    opens = []
    for row in page:
        if row[0] == "box":
            texts.append(box_text(row))
            opens.append(row[1])
        elif row[0] == "out":
            texts.append("</" + opens.pop() + ">")
        else:
            # an asis box knows no marks
            texts.append(row[1] if opens[-1:] == ["asis"] else put("text", row[1]))
    return "".join(texts)
