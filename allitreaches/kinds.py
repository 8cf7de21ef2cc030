"""What is a PART, a STOCK, a TOOL, TOOLS, a ROW."""

from allitreaches.boxes import clash, is_box
from allitreaches.errors import BadPart, BadRow, BadStock, BadTool, BadTools
from allitreaches.integers import is_integer


def are_boxes(value, least, most, low, high):
    """Whether any value is a tuple of least to most BOXES, all numbers from low to high."""
    if not isinstance(value, tuple) or not least <= len(value) <= most:
        return False
    if not all([is_box(box) for box in value]):
        return False
    return all([low <= number <= high for box in value for number in box])


def is_part(value):
    """Whether any value is a PART."""
    return are_boxes(value, 0, 6, 0, 8)


def check_part(value):
    """Refuses what is no PART."""
    if not is_part(value):
        raise BadPart(value)


def is_stock(value):
    """Whether any value is a STOCK."""
    return are_boxes(value, 1, 3, 0, 8)


def check_stock(value):
    """Refuses what is no STOCK."""
    if not is_stock(value):
        raise BadStock(value)


def is_tool(value):
    """Whether any value is a TOOL."""
    if not isinstance(value, tuple) or len(value) != 2:
        return False
    cutter, holder = value
    if not are_boxes(cutter, 1, 3, -4, 4) or not are_boxes(holder, 0, 3, -4, 4):
        return False
    return not any([clash(box, by) for box in cutter for by in holder])


def check_tool(value):
    """Refuses what is no TOOL."""
    if not is_tool(value):
        raise BadTool(value)


def are_tools(value):
    """Whether any value is a tuple of TOOLS, as many as can be."""
    return isinstance(value, tuple) and 1 <= len(value) <= 4 and all([is_tool(tool) for tool in value])


def check_tools(value):
    """Refuses what are no TOOLS."""
    if not are_tools(value):
        raise BadTools(value)


def is_row(value, tools):
    """Whether any value is a ROW of turns of these TOOLS."""
    if not isinstance(value, tuple):
        return False
    return all([is_integer(number) and 0 <= number < len(tools) for number in value])


def check_row(value, tools):
    """Refuses what is no ROW of turns of these TOOLS."""
    if not is_row(value, tools):
        raise BadRow(value)
