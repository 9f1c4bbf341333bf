"""Papers: blocks as texts, and what a stripe tells of each of its planks."""

from spareplank.errors import NoLine

FIGURES = "0123456789abcdef"


def figures_of(blocks):
    """How many figures a block is written with."""
    return (blocks.field.width * blocks.many + 3) // 4


def shown_block(blocks, block):
    """The block in figures, the highest first."""
    text = ""
    rest = block
    for at in range(figures_of(blocks)):
        text = FIGURES[rest % 16] + text
        rest = rest // 16
    return text


def read_block(blocks, text):
    """The block that the text writes."""
    if len(text) != figures_of(blocks):
        raise NoLine("a block is not written with so many figures")
    block = 0
    for sign in text:
        if sign not in FIGURES:
            raise NoLine("a block is written with other signs")
        block = 16 * block + FIGURES.index(sign)
    if not blocks.good(block):
        raise NoLine("what is written is no block")
    return block


def paper_of(row, stripe):
    """What is read, reckoned or free of each plank in a stripe, planks rising."""
    row.shape.check_stripe(stripe)
    row.ready()
    paper = row.code.paper(row.looked(stripe))
    texts = []
    for plank in range(row.rack.planks):
        role = row.shape.role_of(stripe, plank)
        texts.append(" ".join([str(plank)] + words_of(row.code.blocks, role, paper[role])))
    return texts


def words_of(blocks, role, told):
    """The words for what the paper of a row tells of a role."""
    if told[0] == "read":
        return ["read", shown_block(blocks, told[1])]
    if told[0] == "reckoned":
        return ["reckoned", shown_block(blocks, told[1]), "by"] + [str(symbol) for symbol in told[2]]
    return ["free", shown_block(blocks, told[1][role]), shown_block(blocks, told[2][role])]
