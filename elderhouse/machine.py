"""The machine that answers by rows."""

from elderhouse.frames import behind, entered, own_done
from elderhouse.numbers import MOST_WITHIN
from elderhouse.places import Places


# Ended is the answer, None until all is over.
class Machine:
    def __init__(self, blocks, tables, numbers, most=100, remembers=True):
        self.blocks = tuple(blocks)
        self.house_tables = tuple([tuple(table) for table in tables])
        self.most = most
        self.remembers = remembers
        self.places = Places()
        self.stacked = [entered(self.blocks[-1], len(self.blocks) - 1, numbers)]
        self.made = []
        self.ended = None
        self.call_count = 0
        self.look_count = 0
        self.hit_count = 0
        self.row_count = 0

    def frames(self):
        return list(self.stacked)

    def things(self):
        return list(self.made)

    def answer(self):
        return self.ended

    def calls(self):
        return self.call_count

    def looks(self):
        return self.look_count

    def hits(self):
        return self.hit_count

    def rows_done(self):
        return self.row_count

    def step(self):
        if self.ended is not None:
            return False
        self.row_count += 1
        frame = self.stacked[-1]
        row = self.blocks[frame[0]][2][frame[1]]
        if row[0] == "make":
            self.make(row[1], row[2], frame)
        elif row[0] == "put":
            self.set_field(row[1], frame)
        elif row[0] == "call":
            self.enter(self.found_block(row[1], row[2], row[3], frame), row[3], frame)
        elif row[0] == "straight":
            self.enter(row[1], row[2], frame)
        elif row[0] == "back":
            self.go_back(frame)
        else:
            self.do_own(row, frame)
        return True

    def do_own(self, row, frame):
        done, refusal = own_done(row, frame, self.made)
        self.stacked[-1] = done
        if refusal is not None:
            self.end(refusal)

    def make(self, house, many, frame):
        self.made.append((house, uppermost(frame, many)))
        self.stacked[-1] = behind(frame, many, ("thing", len(self.made) - 1))

    def set_field(self, place, frame):
        thing, value = uppermost(frame, 2)
        house, inner = self.made[thing[1]]
        self.made[thing[1]] = (house, inner[:place] + (value,) + inner[place + 1:])
        self.stacked[-1] = behind(frame, 2, value)

    def found_block(self, site, word, many, frame):
        house = self.made[uppermost(frame, many)[0][1]][0]
        if self.remembers:
            known = self.places.asked(site, house)
            if known is not None:
                self.hit_count += 1
                return known
        self.look_count += 1
        block = self.house_tables[house][word]
        if self.remembers:
            self.places.put(site, house, block)
        return block

    # The calls that have not ended are those of the frames above main's.
    def enter(self, block, many, frame):
        if self.call_count >= self.most:
            self.end(("dry",))
            return
        self.call_count += 1
        if len(self.stacked) > MOST_WITHIN:
            self.end(("deep",))
            return
        number, at, slots, stack = frame
        self.stacked[-1] = (number, at + 1, slots, stack[:len(stack) - many])
        self.stacked.append(entered(self.blocks[block], block, uppermost(frame, many)))

    def go_back(self, frame):
        value = frame[3][-1]
        self.stacked.pop()
        if self.stacked == []:
            self.end(self.told_answer(value))
        else:
            number, at, slots, stack = self.stacked[-1]
            self.stacked[-1] = (number, at, slots, stack + (value,))

    def told_answer(self, value):
        if isinstance(value, tuple):
            return ("thing", self.made[value[1]][0])
        return ("value", value)

    def end(self, told):
        self.ended = told
        self.stacked = []


# So many values of the stack, the deepest first.
def uppermost(frame, many):
    stack = frame[3]
    return stack[len(stack) - many:]
