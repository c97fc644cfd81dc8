"""Papers of probes: what stands, or the probe that shows that it does not (points 16.2 to 16.5)."""

from probeweb.arcs import arc_probe, greatest_lists
from probeweb.pairing import joint_pairs, strand_apart
from probeweb.pebbles import greatest_strategy, pebble_probe
from probeweb.refining import even_matrix, joint_colouring, tree_apart


def lists_paper(A, B):
    """The greatest closed lists, or a tree that maps into `A` and not into `B`."""
    tree = arc_probe(A, B)
    return ("lists", greatest_lists(A, B)) if tree is None else ("tree", tree)


def strategy_paper(A, B):
    """The greatest strategy, or a strand that maps into `A` and not into `B`."""
    strand = pebble_probe(A, B)
    return ("strategy", greatest_strategy(A, B)) if strand is None else ("strand", strand)


def colours_paper(A, B):
    """The joint colouring, or a tree with unlike numbers of maps."""
    told = tree_apart(A, B)
    return ("classes",) + joint_colouring(A, B) if told is None else ("trees",) + told


def even_paper(A, B):
    """The even matrix of the classes, or a tree with unlike numbers of maps."""
    matrix = even_matrix(A, B)
    return ("trees",) + tree_apart(A, B) if matrix is None else ("even", matrix)


def pairs_paper(A, B):
    """The joint pairs, or a strand with unlike numbers of maps."""
    told = strand_apart(A, B)
    return ("pairs", joint_pairs(A, B)) if told is None else ("strands",) + told
