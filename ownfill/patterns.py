"""Patterns: short descriptions of sets of texts."""

from ownfill.errors import ParseError
from ownfill.machines import explored
from ownfill.turns import check_letters, check_text

FIRST_NODE = 0
LAST_NODE = 1


def can_stand(letters, before, sign, depth):
    """Whether a sign can stand behind another one, inside of a number of parentheses."""
    if sign == "*":
        return before in letters or before in (".", ")")
    if sign == ")":
        return depth > 0
    return sign in letters or sign in (".", "|", "(")


def check_pattern(letters, pattern):
    """Raises ParseError with the position of the first sign that cannot stand there, or with the length."""
    depth = 0
    # What can stand at the beginning is what can stand behind the parenthesis of a group.
    before = "("
    for at, sign in enumerate(pattern):
        if not can_stand(letters, before, sign, depth):
            raise ParseError(at)
        if sign == "(":
            depth += 1
        if sign == ")":
            depth -= 1
        before = sign
    if depth > 0:
        raise ParseError(len(pattern))


class Net:
    """Nodes for a pattern: from a node one jumps to others, or reads one of some letters and is at the next node."""

    def __init__(self):
        self.reads = []
        self.jumps = []

    def new_node(self, reads):
        """Adds a node; returns its number."""
        self.reads.append(reads)
        self.jumps.append([])
        return len(self.reads) - 1

    def new_piece(self, reads):
        """Adds two nodes side by side, the start and the end of a piece; returns their numbers."""
        return (self.new_node(reads), self.new_node(""))

    def link(self, one, other):
        """Adds a jump."""
        self.jumps[one].append(other)


def read_letters(letters, sign):
    """The letters for which a sign stands; none for a parenthesis."""
    if sign == ".":
        return letters
    return sign if sign in letters else ""


def pattern_net(letters, pattern):
    """The net of a valid pattern. Each piece has its own two nodes, so that the jumps of a star stay inside of it."""
    net = Net()
    piece = net.new_piece("")
    groups = [piece]
    now = FIRST_NODE
    for sign in pattern:
        if sign == "|":
            net.link(now, groups[-1][1])
            now = groups[-1][0]
        elif sign == "*":
            net.link(piece[0], piece[1])
            net.link(piece[1], piece[0])
        elif sign == ")":
            piece = groups.pop()
            net.link(now, piece[1])
            now = piece[1]
        else:
            piece = net.new_piece(read_letters(letters, sign))
            net.link(now, piece[0])
            now = piece[1]
            if sign == "(":
                groups.append(piece)
                now = piece[0]
    net.link(now, LAST_NODE)
    return net


def jumped(net, nodes):
    """The tuple of the nodes to which jumps lead, as far as they read something or are the last one."""
    seen = {node: True for node in nodes}
    waiting = list(nodes)
    while waiting:
        now = waiting.pop()
        for node in net.jumps[now]:
            if node not in seen:
                seen[node] = True
                waiting.append(node)
    return tuple(sorted([node for node in seen if net.reads[node] != "" or node == LAST_NODE]))


def read_on(net, nodes, letter):
    """The tuple of the nodes to which a letter leads."""
    return jumped(net, [node + 1 for node in nodes if letter in net.reads[node]])


def pattern_machine(letters, pattern):
    """The machine that answers True for the texts of a pattern."""
    check_letters(letters)
    check_pattern(letters, pattern)
    net = pattern_net(letters, pattern)

    def step(nodes, place):
        return read_on(net, nodes, letters[place])

    return explored(letters, jumped(net, [FIRST_NODE]), step, lambda nodes: LAST_NODE in nodes)


def pattern_holds(letters, pattern, text):
    """Whether a text is one of the texts of a valid pattern."""
    check_text(letters, text)
    net = pattern_net(letters, pattern)
    nodes = jumped(net, [FIRST_NODE])
    for letter in text:
        nodes = read_on(net, nodes, letter)
    return LAST_NODE in nodes
