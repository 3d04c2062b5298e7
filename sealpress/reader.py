"""Texts read to their pages."""

from sealpress.errors import Unended
from sealpress.pages import page_of
from sealpress.signs import need_text
from sealpress.steps import begin, is_end, run


def read(text):
    """The page of a text; refused with NoSign, then Unread, then Unended."""
    answer = run(begin(), need_text(text))
    if not is_end(answer[0]):
        raise Unended("the text ends where none may end")
    return page_of(answer[1])
