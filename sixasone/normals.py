"""Normal forms of tied, plain webs."""

from sixasone.errors import NotTied
from sixasone.plains import check_plain
from sixasone.webs import Web


def with_sorted_parts(web):
    """The web with the parts of all rows and bunches in ascending order of their texts."""
    parts = sorted([with_sorted_parts(part) for part in web.parts], key=str)
    if web.kind == "row":
        return Web.row(*parts)
    return Web.bunch(*parts) if web.kind == "bunch" else web


def normal(web):
    """The normal form; tied, plain webs are alike exactly if theirs are equal."""
    if not web.is_tied:
        raise NotTied()
    check_plain(web)
    return with_sorted_parts(web)
