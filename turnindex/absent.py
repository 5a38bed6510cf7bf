"""The least words that a text has not, and the text that has none but these not."""

from turnindex.checks import check_sorted_letters, check_text, check_word_over
from turnindex.errors import NoText
from turnindex.neighbours import parts_number


def least_absent(text, letters):
    """Give the words over the letters that are no parts of the text, but whose shorter parts all are."""
    check_text(text)
    check_sorted_letters(letters, text)
    size = len(text)
    parts = sorted({text[begin:end] for begin in range(size + 1) for end in range(begin, size + 1)})
    longer = [part + letter for part in parts for letter in letters]
    return sorted([word for word in longer if word not in text and word[1:] in text])


def text_of_absent(words, letters):
    """Give the only text with these as its least absent words, or None."""
    check_sorted_letters(letters, "")
    _check_absent(words, letters)
    absent = sorted(set(words))
    if not _is_least(absent):
        return None
    net = _net(absent, letters)
    states = _in_order(net)
    # Where steps lead round, texts of any length have none of the words, so that other words must be absent from each.
    return None if states is None else _only_text(net, states)


def _check_absent(words, letters):
    """Raise NoText if this is no list or tuple, or of the first thing in it that is no word over the letters."""
    if not isinstance(words, (list, tuple)):
        raise NoText(words)
    for word in words:
        check_word_over(word, letters)


def _is_least(words):
    """Tell whether none of the unlike words is a part of another."""
    return all([one == other or one not in other for one in words for other in words])


def _net(words, letters):
    """Give the net whose ways from the empty word on are the texts that have none of the words.

    Its states are the beginnings of the words, these themselves apart: a text is at the longest one that
    it ends with. The net tells for each state and letter the next state, None where a word is whole.
    """
    whole = {word: True for word in words}
    begins = {word[:size]: True for word in words for size in range(len(word))}
    begins[""] = True
    net = {}
    for state in sorted(list(begins), key=len):
        steps = _steps_of_shorter(net, state, letters)
        for letter in letters:
            if state + letter in whole:
                steps[letter] = None
            elif state + letter in begins:
                steps[letter] = state + letter
        net[state] = steps
    return net


def _steps_of_shorter(net, state, letters):
    """Give the steps of the longest shorter state with which this one ends."""
    if state == "":
        return {letter: "" for letter in letters}
    at = ""
    for letter in state[1:]:
        at = net[at][letter]
    return dict(net[at])


def _in_order(net):
    """Give the states, each behind all those from which steps lead to it, or None if steps lead round."""
    ahead = {state: 0 for state in net}
    for state in net:
        for target in _targets(net, state):
            ahead[target] += 1
    waiting = [state for state in net if ahead[state] == 0]
    ordered = []
    while len(waiting) > 0:
        state = waiting.pop()
        ordered.append(state)
        for target in _targets(net, state):
            ahead[target] -= 1
            if ahead[target] == 0:
                waiting.append(target)
    return ordered if len(ordered) == len(net) else None


def _targets(net, state):
    """Give the next states of a state, one for each letter that leads to one."""
    return [target for target in net[state].values() if target is not None]


def _only_text(net, states):
    """Give the text whose parts are just the ways of the net, or None."""
    ways = {state: 0 for state in states}
    longest = {state: "" for state in states}
    ways[""] = 1
    for state in states:
        for letter, target in net[state].items():
            if target is not None:
                ways[target] += ways[state]
                longest[target] = max(longest[target], longest[state] + letter, key=len)
    text = max(list(longest.values()), key=len)
    # All parts of a way are ways themselves.
    return text if parts_number(text) == sum(ways.values()) else None
