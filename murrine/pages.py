"""Pages: the deeds of a shop that count, as a text of one line for each."""

from murrine.deeds import read, written
from murrine.errors import BadPage, GlassError
from murrine.shop import Shop


def page(shop):
    """The page of a shop."""
    return "\n".join([written(deed) for deed in shop.deeds()])


def read_page(faces, text):
    """A shop with this store in which the deeds of a page were done one by one."""
    shop = Shop(faces)
    if text == "":
        return shop
    for at, line in enumerate(text.split("\n"), 1):
        try:
            shop.do(read(line))
        except GlassError:
            raise BadPage(at) from None
    return shop
