"""Records of a sentence's states along a tree of rooms, and their judge."""

from havenorhunt.along import tables_along
from havenorhunt.errors import BadSentence
from havenorhunt.sentences import free_names
from havenorhunt.states import states_of


def record(graph, rooms, sentence):
    """Return the record of a sentence along a tree of rooms; raise BadSentence if it has free names."""
    if free_names(sentence):
        raise BadSentence()
    worked_out = states_of(sentence)
    return tuple([worked_out.told(state) for state in _states_along(graph, rooms, worked_out)])


def record_holds(graph, rooms, sentence, states, answer):
    """Tell whether states, any tuple, are the record of a sentence without free names, with its answer."""
    # What follows from room to room, from the last one on, is the record. So each state that is
    # passed follows from those right below it just if all of them are the ones that follow here.
    worked_out = states_of(sentence)
    following = _states_along(graph, rooms, worked_out)
    if states != tuple([worked_out.told(state) for state in following]):
        return False
    return answer == worked_out.tells(following[0], {})


def _states_along(graph, rooms, worked_out):
    """Return the list of the states in the parts of the rooms, as the object that works them out holds them."""
    found = []
    for table in tables_along(graph, rooms, worked_out, ()):
        # Without free names each table has one key, with no numbers.
        found.extend([state for _, state in table])
    return found
