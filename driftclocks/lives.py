"""The calls on one object, one behind another."""

from driftclocks.calls import read_calls, refuse_call
from driftclocks.facts import Told, tell_fact
from driftclocks.grammar import LINE_END, read_facts, read_single
from driftclocks.knowledge import FIRST_OF_KNOWLEDGE, answer_knowledge
from driftclocks.questions import answer_question
from driftclocks.readings import FIRST_OF_READINGS, answer_readings
from driftclocks.refusals import FAULT_BASE, LINE_BASE
from driftclocks.worlds import FIRST_OF_WORLDS, answer_of_world


class Lives:
    """The object that the calls are on: it keeps what's told."""

    def __init__(self):
        self.told = Told()


class Telling:
    """What facts tell up to the first one that's refused, and that one's refusal (0: none)."""

    def __init__(self, facts):
        self.told = Told()
        self.refusal = 0
        for fact in facts:
            if self.refusal == 0:
                self.refusal = tell_fact(self.told, fact)


def answer_clear(lives, text):
    """0 clear ()."""
    lives.told = Told()
    return [0]


def answer_tell(lives, text):
    """1 tell (; text)."""
    fact = read_single(text)
    if fact.fault >= 0:
        return [FAULT_BASE - fact.fault]
    refusal = tell_fact(lives.told, fact)
    if refusal < 0:
        return [refusal]
    return [len(lives.told.lines)]


def answer_read(lives, text):
    """2 read (; text)."""
    found = read_facts(text)
    if found.fault >= 0:
        return [FAULT_BASE - found.fault]
    telling = Telling(found.facts)
    if telling.refusal < 0:
        return [LINE_BASE - len(telling.told.lines)]
    lives.told = telling.told
    return [len(lives.told.lines)]


def answer_look(lives, text):
    """3 look (; text)."""
    found = read_facts(text)
    if found.fault >= 0:
        return [1, found.fault]
    telling = Telling(found.facts)
    if telling.refusal < 0:
        return [2, len(telling.told.lines), 0 - telling.refusal]
    return [0, len(telling.told.lines)]


def answer_text(lives, text):
    """4 text ()."""
    answer = [0]
    for number, line in enumerate(lives.told.lines):
        if number > 0:
            answer.append(LINE_END)
        answer.extend(line)
    return answer


# By the numbers of the calls, from 0 on; all others ask.
TELLERS = (answer_clear, answer_tell, answer_read, answer_look, answer_text)


def answer_call(lives, call):
    """The numbers that the call answers."""
    refusal = refuse_call(lives.told, call)
    if refusal < 0:
        return [refusal]
    if call.number < len(TELLERS):
        return TELLERS[call.number](lives, call.row)
    if call.number < FIRST_OF_READINGS:
        return answer_question(lives.told, call)
    if call.number < FIRST_OF_WORLDS:
        return answer_readings(lives.told, call)
    if call.number < FIRST_OF_KNOWLEDGE:
        return answer_of_world(lives.told, call)
    return answer_knowledge(lives.told, call)


def answers(calls):
    """For each call, in order, how many numbers are answered, then these."""
    lives = Lives()
    numbers = []
    for call in read_calls(calls):
        answer = answer_call(lives, call)
        numbers.append(len(answer))
        numbers.extend(answer)
    return numbers
