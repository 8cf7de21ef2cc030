"""How high a scene goes, and from where on a TOOL is outside."""


def top_of(part, stock):
    """TOP: the greatest number of a z1 of both."""
    return max([box[5] for box in part + stock])


def lowest_outside(part, stock, tool):
    """The least z of places that are outside."""
    cutter, holder = tool
    return top_of(part, stock) - min([box[4] for box in cutter + holder])
