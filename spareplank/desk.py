"""A desk: lines in, texts out."""

from spareplank.blocks import Blocks
from spareplank.codes import MOST_ROLES, MOST_SUMS, Code
from spareplank.errors import NoCode, NoLine
from spareplank.field import Field
from spareplank.lines import plain_weights
from spareplank.papers import paper_of, read_block, shown_block
from spareplank.racks import Rack
from spareplank.rows import Row
from spareplank.shapes import Shape, even_turns
from spareplank.spares import step_spare
from spareplank.walks import mend_stripe, walk_through

PLAIN_FIGURES = "0123456789"
MOST_FIGURES = 9

# The words behind the first one, a sign for each: n a number, s a step, x a block.
FORMS = {
    "make": "nnnnnns",
    "get": "n",
    "up": "",
    "step": "n",
    "walk": "",
    "mend": "n",
    "paper": "n",
    "peek": "nn",
    "kind": "n",
    "lose": "n",
    "spare": "n",
    "slow": "nn",
    "spoil": "nn",
    "lie": "nnx",
}


def form_of(words):
    """The form of a line by its first word and by how many words it has; None where there is none."""
    if words[0] == "put":
        return "n" + "x" * max(1, len(words) - 2)
    if words[0] == "supply":
        return "" if len(words) == 1 else "n"
    return FORMS.get(words[0])


def plain_number(word):
    """The number that is written plainly."""
    if len(word) < 1 or len(word) > MOST_FIGURES or (len(word) > 1 and word[0] == "0"):
        raise NoLine("a number is not written plainly")
    for sign in word:
        if sign not in PLAIN_FIGURES:
            raise NoLine("a number is written with other signs")
    return int(word)


def step_number(word):
    """The step that is written plainly, perhaps with a minus."""
    if not word.startswith("-"):
        return plain_number(word)
    step = plain_number(word[1:])
    if step == 0:
        raise NoLine("0 has no minus")
    return -step


def read_words(row, form, words):
    """The numbers and blocks that the words write."""
    given = []
    for sort, word in zip(form, words):
        if sort == "n":
            given.append(plain_number(word))
        elif sort == "s":
            given.append(step_number(word))
        else:
            given.append(read_block(row.code.blocks, word))
    return given


def new_row(given):
    """The row of a make line, on a new rack."""
    data = given[2]
    sums = given[3]
    stripes = given[4]
    planks = data + sums
    blocks = Blocks(Field(given[0]), given[1])
    # The numbers are asked ahead of the weights, which would be as long as the data roles are many.
    if sums < 1 or sums > MOST_SUMS or data < 1 or planks > MOST_ROLES:
        raise NoCode(f"there is no code of {data} data roles and {sums} sums")
    code = Code(blocks, plain_weights(data, sums))
    shape = Shape(data, planks, stripes, even_turns(planks, given[6]))
    return Row(code, shape, Rack(planks, stripes, given[5]))


def answer_get(row, given):
    """The block at a place."""
    return shown_block(row.code.blocks, row.get(given[0]))


def answer_put(row, given):
    """In how many stripes something was laid."""
    many = len(row.put(given[0], given[1:]))
    return f"ok {many}"


def answer_up(row, given):
    """The stripes of the notes, each with the planks on which a block was laid."""
    words = []
    for stripe, planks in row.up():
        words.append("/".join([str(number) for number in [stripe] + planks]))
    return " ".join(words) if len(words) > 0 else "none"


def answer_step(row, given):
    """Whether a block was reckoned for the spare."""
    return "reckoned" if step_spare(row, given[0]) else "none"


def answer_walk(row, given):
    """What is told of each stripe."""
    return "; ".join([shown_verdict(row, told) for told in walk_through(row)])


def shown_verdict(row, told):
    """What the walk tells of one stripe, as a text."""
    if told[0] == "right":
        return " ".join(["right", str(told[1])])
    if told[0] == "lies":
        return " ".join(["lies", str(told[1]), shown_block(row.code.blocks, told[2])])
    return "open"


def answer_mend(row, given):
    """The planks on which something was laid."""
    planks = mend_stripe(row, given[0])
    if planks is None:
        return "open"
    return " ".join([str(plank) for plank in planks]) if len(planks) > 0 else "none"


def answer_paper(row, given):
    """The paper of a stripe."""
    return "; ".join(paper_of(row, given[0]))


def answer_peek(row, given):
    """What a plank holds for a stripe."""
    block = row.rack.peek(given[0], given[1])
    return "none" if block is None else shown_block(row.code.blocks, block)


def answer_kind(row, given):
    """The word of a plank."""
    return row.rack.kind_of(given[0])


def answer_lose(row, given):
    """Loses a plank."""
    row.rack.lose(given[0])
    return "ok"


def answer_spare(row, given):
    """Puts in a spare that holds nothing."""
    row.rack.put_spare(given[0])
    return "ok"


def answer_slow(row, given):
    """Makes a plank slow."""
    row.rack.make_slow(given[0], given[1])
    return "ok"


def answer_spoil(row, given):
    """Spoils a block."""
    row.rack.spoil(given[0], given[1])
    return "ok"


def answer_lie(row, given):
    """Lets a block lie."""
    row.rack.lie(given[0], given[1], given[2])
    return "ok"


def answer_supply(row, given):
    """Gives power for so many single writes, or without end."""
    row.rack.supply(given[0] if len(given) > 0 else None)
    return "ok"


ANSWERS = {
    "get": answer_get,
    "put": answer_put,
    "up": answer_up,
    "step": answer_step,
    "walk": answer_walk,
    "mend": answer_mend,
    "paper": answer_paper,
    "peek": answer_peek,
    "kind": answer_kind,
    "lose": answer_lose,
    "spare": answer_spare,
    "slow": answer_slow,
    "spoil": answer_spoil,
    "lie": answer_lie,
    "supply": answer_supply,
}


class Desk:
    """A row that is asked by lines; none at first."""

    def __init__(self):
        self.row = None

    def say(self, line):
        """The answer to a line."""
        if not isinstance(line, str):
            raise NoLine("what is no text is no line")
        words = line.split(" ")
        form = form_of(words)
        if form is None or len(form) != len(words) - 1:
            raise NoLine("there is no such line")
        if self.row is None and words[0] != "make":
            raise NoLine("there is no row yet")
        given = read_words(self.row, form, words[1:])
        if words[0] == "make":
            self.row = new_row(given)
            return "ok"
        answer = ANSWERS[words[0]]
        return answer(self.row, given)
