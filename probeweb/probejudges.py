"""Judges of papers of probes (points 16.1 to 16.5)."""

from probeweb.arcs import check_arc_pair, is_closed_lists
from probeweb.pairing import check_paired, is_pair_colouring
from probeweb.pebbles import check_strategy_pair, is_strategy
from probeweb.refining import check_refined_pair, is_even_matrix, signatures_of
from probeweb.strands import is_strand, strand_reaches, strand_rest
from probeweb.structures import is_binary, is_pair, kind_of
from probeweb.trees import is_tree, tree_reaches, tree_rest
from probeweb.whole import is_number_from


def _is_paper_of(paper, size):
    """True for a tuple of so many items."""
    return isinstance(paper, tuple) and len(paper) == size


def takes_lists(A, B, paper):
    """True for standing lists, or a tree that maps into `A` and not into `B`, for every paper."""
    check_arc_pair(A, B)
    if not is_pair(paper):
        return False
    word, told = paper
    if word == "lists":
        return is_closed_lists(A, B, told) and () not in told
    if word != "tree" or not is_tree(told, kind_of(A)):
        return False
    return tree_reaches(told, A)[-1] != () and tree_reaches(told, B)[-1] == ()


def takes_strategy(A, B, paper):
    """True for a standing strategy, or a strand that maps into `A` and not into `B`, for every paper."""
    check_strategy_pair(A, B)
    if not is_pair(paper):
        return False
    word, told = paper
    if word == "strategy":
        return is_strategy(A, B, told) and not any([() in line for line in told])
    if word != "strand" or not is_strand(told, kind_of(A)):
        return False
    return strand_reaches(told, A)[-1] != () and strand_reaches(told, B)[-1] == ()


def _is_colouring(value, n):
    """True for a tuple of `n` integers from 0 on."""
    return _is_paper_of(value, n) and all([is_number_from(colour, 0) for colour in value])


def _are_classes(A, B, one, two):
    """True for colourings with which points of one colour, in both, have the same signature."""
    if not (_is_colouring(one, A[0]) and _is_colouring(two, B[0])) or sorted(one) != sorted(two):
        return False
    told = {}
    for signature in signatures_of(A, one) + signatures_of(B, two):
        if told.setdefault(signature[0], signature) != signature:
            return False
    return True


def _is_modulus(value):
    return is_number_from(value, 2)


def takes_colours(A, B, paper):
    """True for classes, an even matrix, or a tree with unlike numbers of maps, for every paper."""
    check_refined_pair(A, B)
    if is_pair(paper):
        return paper[0] == "even" and is_binary(A) and is_even_matrix(A, B, paper[1])
    if not _is_paper_of(paper, 3):
        return False
    word, one, two = paper
    if word == "classes":
        return _are_classes(A, B, one, two)
    if word != "trees" or not (is_tree(one, kind_of(A)) and _is_modulus(two)):
        return False
    return tree_rest(one, A, two) != tree_rest(one, B, two)


def takes_pairs(A, B, paper):
    """True for colours of pairs, or a strand with unlike numbers of maps, for every paper."""
    check_paired(A, B)
    if is_pair(paper):
        return paper[0] == "pairs" and is_pair_colouring(A, B, paper[1])
    if not (_is_paper_of(paper, 3) and paper[0] == "strands"):
        return False
    _, strand, l = paper
    if not (is_strand(strand, kind_of(A)) and _is_modulus(l)):
        return False
    return strand_rest(strand, A, l) != strand_rest(strand, B, l)
