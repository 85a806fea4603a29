"""How few moves of frames make blocks of a memory free."""

from twinleaves.checks import is_ascending, is_between, is_from
from twinleaves.errors import BadMemory, BadNumber
from twinleaves.evidence import new_list

MOST_FRAMES = 4096


class Memory:
    """Blocks of a size, with taken frames, and fixed ones among these."""

    def __init__(self, size, blocks, taken, fixed):
        if not is_from(size, 1) or not is_from(blocks, 1) or size * blocks > MOST_FRAMES:
            raise BadMemory("blocks and their size are integers from 1 on, their product is at most 4096")
        last = size * blocks - 1
        if not is_ascending(taken, last) or not is_ascending(fixed, last):
            raise BadMemory("frames are no ascending list or tuple of frames of the memory")
        among = {frame: True for frame in taken}
        if not all([frame in among for frame in fixed]):
            raise BadMemory("a fixed frame is not taken")
        self.parts = (size, blocks, tuple(taken), tuple(fixed))

    def __eq__(self, other):
        return isinstance(other, Memory) and self.parts == other.parts

    def told(self):
        """The size, the number of blocks, the taken frames, and the fixed ones."""
        return self.parts


class Moves:
    """Moves of frames, and blocks that are free behind them."""

    def __init__(self, moves, blocks):
        self.moves = new_list(moves)
        self.blocks = new_list(blocks)

    def __eq__(self, other):
        return isinstance(other, Moves) and self.moves == other.moves and self.blocks == other.blocks

    def shows(self, memory, wanted):
        """Whether these moves can be done, so many blocks are free behind them, and no fewer moves do it."""
        judge_wanted(memory, wanted)
        size, blocks = memory.told()[:2]
        least = least_blocks(memory, wanted)
        taken = taken_behind(memory, self.moves)
        if least is None or taken is None or len(self.blocks) != wanted or not is_ascending(self.blocks, blocks - 1):
            return False
        if not all([frame not in taken for block in self.blocks for frame in range(block * size, block * size + size)]):
            return False
        return len(self.moves) == sum([number for number, _ in least])


def taken_behind(memory, moves):
    """A dict of the frames that are taken behind moves, None if these cannot be done."""
    size, blocks, taken, fixed = memory.told()
    found = {frame: True for frame in taken}
    kept = {frame: True for frame in fixed}
    for frame, goal in moves:
        if frame not in found or frame in kept or goal in found or not is_between(goal, 0, size * blocks - 1):
            return None
        del found[frame]
        found[goal] = True
    return found


def judge_wanted(memory, wanted):
    """Raise BadMemory or BadNumber unless this is a memory, and a number of blocks."""
    if not isinstance(memory, Memory):
        raise BadMemory("this is no memory")
    if not is_from(wanted, 0):
        raise BadNumber("a number of blocks is an integer from 0 on")


def least_blocks(memory, wanted):
    """So many blocks with the fewest taken frames, pairs of their number and the block, None if they cannot be free."""
    size, blocks, taken, fixed = memory.told()
    numbers = {block: 0 for block in range(blocks)}
    for frame in taken:
        numbers[frame // size] += 1
    for frame in fixed:
        numbers.pop(frame // size, None)
    # Whichever blocks are chosen, all that is taken must find room in the others.
    if wanted > len(numbers) or len(taken) > (blocks - wanted) * size:
        return None
    return sorted([(number, block) for block, number in numbers.items()])[:wanted]


def fewest_moves(memory, wanted):
    """A Moves that makes so many blocks free, None if there are none."""
    judge_wanted(memory, wanted)
    least = least_blocks(memory, wanted)
    if least is None:
        return None
    size, blocks, taken, _ = memory.told()
    chosen = {block: True for _, block in least}
    there = {frame: True for frame in taken}
    leaving = [frame for frame in taken if frame // size in chosen]
    free = [frame for frame in range(size * blocks) if frame not in there and frame // size not in chosen]
    return Moves(list(zip(leaving, free)), sorted(chosen))
