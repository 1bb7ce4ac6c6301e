"""The answers to a list of calls on one outline."""

from outlinebook.calls import counted, read_calls
from outlinebook.copying import copy_tree
from outlinebook.folding import fold_from, fold_section, reveal_node
from outlinebook.making import add_node, dissolve_section, drop_tree, wrap_siblings, write_text
from outlinebook.moving import demote_tree, move_tree, promote_tree, raise_tree, sort_children
from outlinebook.nodes import Outline
from outlinebook.reading import info_of, order_of, path_to, state_of, step_from, view_of
from outlinebook.saving import load_outline, save_outline
from outlinebook.telling import broken_in, contents_to, find_label, label_of, references_of, referring_to
from outlinebook.telling import search_for, shown_text_of, text_of


def answer_making(outline, name, wholes, row):
    """The answer to a call that makes, writes or takes out nodes; None for any other call."""
    if name == "section":
        return add_node(outline, 0, wholes[0], wholes[1], row)
    if name == "cell":
        return add_node(outline, 1, wholes[0], wholes[1], row)
    if name == "write":
        return write_text(outline, wholes[0], row)
    if name == "drop":
        return drop_tree(outline, wholes[0])
    if name == "dissolve":
        return dissolve_section(outline, wholes[0])
    if name == "wrap":
        return wrap_siblings(outline, wholes[0], wholes[1], row)
    if name == "copy":
        return copy_tree(outline, wholes[0], wholes[1], wholes[2])
    return None


def answer_moving(outline, name, wholes):
    """The answer to a call that gives trees other places; None for any other call."""
    if name == "move":
        return move_tree(outline, wholes[0], wholes[1], wholes[2])
    if name == "promote":
        return promote_tree(outline, wholes[0])
    if name == "demote":
        return demote_tree(outline, wholes[0])
    if name == "raise":
        return raise_tree(outline, wholes[0])
    if name == "sort":
        return sort_children(outline, wholes[0])
    return None


def answer_folding(outline, name, wholes):
    """The answer to a call that folds or unfolds sections; None for any other call."""
    if name == "fold":
        return fold_section(outline, wholes[0], wholes[1])
    if name == "foldFrom":
        return fold_from(outline, wholes[0])
    if name == "reveal":
        return reveal_node(outline, wholes[0])
    return None


def answer_reading(outline, name, wholes):
    """The answer to a call that tells where nodes stand; None for any other call."""
    if name == "order":
        return order_of(outline)
    if name == "view":
        return view_of(outline)
    if name == "info":
        return info_of(outline, wholes[0])
    if name == "path":
        return path_to(outline, wholes[0])
    if name == "step":
        return step_from(outline, wholes[0], wholes[1])
    if name == "state":
        return state_of(outline)
    return None


def answer_telling(outline, name, wholes, row):
    """The answer to a call that tells labels, texts or references; None for any other call."""
    if name == "label":
        return label_of(outline, wholes[0])
    if name == "find":
        return find_label(outline, row)
    if name == "text":
        return text_of(outline, wholes[0])
    if name == "shown":
        return shown_text_of(outline, wholes[0])
    if name == "contents":
        return contents_to(outline, wholes[0])
    if name == "references":
        return references_of(outline, wholes[0])
    if name == "referring":
        return referring_to(outline, wholes[0])
    if name == "broken":
        return broken_in(outline)
    if name == "search":
        return search_for(outline, row)
    return None


def answer_to(outline, call):
    """What the call answers, as a list of whole numbers; the outline is changed as the call asks."""
    if call.name == "save":
        return save_outline(outline)
    if call.name == "load":
        return load_outline(outline, call.row)
    answer = answer_making(outline, call.name, call.wholes, call.row)
    if answer is None:
        answer = answer_moving(outline, call.name, call.wholes)
    if answer is None:
        answer = answer_folding(outline, call.name, call.wholes)
    if answer is None:
        answer = answer_reading(outline, call.name, call.wholes)
    if answer is None:
        answer = answer_telling(outline, call.name, call.wholes, call.row)
    return answer


def answers(calls):
    """The answers to the calls, each with how many numbers it has before it."""
    outline = Outline()
    told = []
    for call in read_calls(calls):
        told.extend(counted(answer_to(outline, call)))
    return told
