"""Judges of papers of probes (points 16.1 to 16.5)."""

from probeweb.arcs import check_arc_pair, is_closed_lists
from probeweb.pairing import check_paired, is_pair_colouring
from probeweb.papers import is_paper_of
from probeweb.pebbles import check_strategy_pair, is_strategy
from probeweb.refining import check_refined_pair, is_even_matrix, signatures_of
from probeweb.strands import is_strand, strand_reaches, strand_rest
from probeweb.structures import MOST_ARITY, arities_of
from probeweb.trees import is_tree, tree_reaches, tree_rest
from probeweb.whole import is_number_from


def takes_lists(A, B, paper):
    """True for standing lists, or a tree that maps into `A` and not into `B`, for every paper."""
    check_arc_pair(A, B)
    if is_paper_of(paper, "lists", 2):
        return is_closed_lists(A, B, paper[1]) and () not in paper[1]
    if not (is_paper_of(paper, "tree", 2) and is_tree(paper[1], arities_of(A))):
        return False
    return tree_reaches(paper[1], A)[-1] != () and tree_reaches(paper[1], B)[-1] == ()


def takes_strategy(A, B, paper):
    """True for a standing strategy, or a strand that maps into `A` and not into `B`, for every paper."""
    check_strategy_pair(A, B)
    if is_paper_of(paper, "strategy", 2):
        return is_strategy(A, B, paper[1]) and not any([() in line for line in paper[1]])
    if not (is_paper_of(paper, "strand", 2) and is_strand(paper[1], arities_of(A))):
        return False
    return strand_reaches(paper[1], A)[-1] != () and strand_reaches(paper[1], B)[-1] == ()


def _is_colouring(value, n):
    """True for a tuple of `n` integers from 0 on."""
    return isinstance(value, tuple) and len(value) == n and all([is_number_from(colour, 0) for colour in value])


def _are_classes(A, B, one, two):
    """True for colourings with which points of one colour, in both, have the same signature."""
    if not (_is_colouring(one, A[0]) and _is_colouring(two, B[0])) or sorted(one) != sorted(two):
        return False
    told = {}
    for signature in signatures_of(A, one) + signatures_of(B, two):
        if told.setdefault(signature[0], signature) != signature:
            return False
    return True


def takes_colours(A, B, paper):
    """True for classes, an even matrix, or a tree with unlike numbers of maps, for every paper."""
    check_refined_pair(A, B)
    if is_paper_of(paper, "classes", 3):
        return _are_classes(A, B, paper[1], paper[2])
    if is_paper_of(paper, "even", 2):
        return MOST_ARITY not in arities_of(A) and is_even_matrix(A, B, paper[1])
    if not (is_paper_of(paper, "trees", 3) and is_tree(paper[1], arities_of(A)) and is_number_from(paper[2], 2)):
        return False
    return tree_rest(paper[1], A, paper[2]) != tree_rest(paper[1], B, paper[2])


def takes_pairs(A, B, paper):
    """True for colours of pairs, or a strand with unlike numbers of maps, for every paper."""
    check_paired(A, B)
    if is_paper_of(paper, "pairs", 2):
        return is_pair_colouring(A, B, paper[1])
    if not (is_paper_of(paper, "strands", 3) and is_strand(paper[1], arities_of(A)) and is_number_from(paper[2], 2)):
        return False
    return strand_rest(paper[1], A, paper[2]) != strand_rest(paper[1], B, paper[2])
