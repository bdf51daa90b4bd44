"""What policies tell, over bare shapes."""

from spentblocks.moves import clearing_act, free_pages, has_room, held, is_act, shape_acts
from spentblocks.parts import MOST_LEFT

WORDS = ("first", "greedy", "even")


def is_policy(policy):
    """Whether this is a policy: one of the words, or a book."""
    return isinstance(policy, dict) or policy in WORDS


def told_act(shape, policy):
    """The act that the policy tells at a shape, or None; at rest there is none."""
    acts = shape_acts(shape)
    if isinstance(policy, dict):
        act = policy.get(shape)
        return act if is_act(act, acts) else None
    if not acts:
        return None
    act = None if policy == "first" else cleaning_act(shape[1], policy == "even")
    return acts[0] if act is None else act


def cleaning_act(blocks, even):
    """The act by the rules of "greedy" or "even", or None where they tell the first one."""
    victims = [b for b, block in enumerate(blocks) if is_victim(block)]
    if free_pages(blocks) < 2 and victims:
        return clearing_act(blocks, min(victims, key=lambda b: (len(held(blocks[b])), wear(blocks[b], even))))
    # If there is any act at all, there is a victim or a free page.
    roomy = [b for b, block in enumerate(blocks) if has_room(block)]
    return ("write", min(roomy, key=lambda b: (blocks[b][1].count("free"), wear(blocks[b], even))))


def is_victim(block):
    """Whether this is a good block with no free pages that can still be erased, if it is cleared before."""
    left, _ = block
    return left is not None and left != 0 and not has_room(block)


def wear(block, even):
    """What orders blocks by their left, the greatest first, if this counts."""
    if not even:
        return 0
    return -MOST_LEFT - 1 if block[0] == "ever" else -block[0]
