"""The masts of a line by places, moved on act by act."""

from mastword.arms import REST, freed, ready, reason


class Motion:
    """What is shown, waits, sleeps and lies in fog, by places, and what is written on the way."""

    def __init__(self, shown, queue, sleepers, fogged):
        self.shown = list(shown)
        self.queue = list(queue)
        self.sleepers = list(sleepers)
        self.fogged = list(fogged)
        self.written = [[] for place in shown]

    def why(self, place):
        """Why the keeper of a place does nothing, else ready."""
        return reason(self.shown, bool(self.queue), self.sleepers, self.fogged, place)

    def ready_places(self):
        """The places whose keepers can act, rising."""
        return ready(self.shown, bool(self.queue), self.sleepers, self.fogged)

    def freed_places(self):
        """The places that must wake and the fogs that must lift, two rising lists."""
        return freed(self.shown, bool(self.queue), self.sleepers, self.fogged)

    def coming(self, place):
        """The sign that comes to a place."""
        return self.queue[0] if place == 0 else self.shown[place - 1]

    def raise_arms(self, place, seen, shows):
        """Let the keeper of a place raise: one sign is written, one is shown."""
        if place == 0:
            self.queue.pop(0)
        self.written[place].append(seen)
        self.shown[place] = shows

    def move(self, place):
        """Let the keeper of a place, who is ready, act without a slip."""
        if self.shown[place] == REST:
            sign = self.coming(place)
            self.raise_arms(place, sign, sign)
        else:
            self.shown[place] = REST

    def move_all(self):
        """Let all who are ready act at once; tells their places."""
        places = self.ready_places()
        # Of two neighbours one is ready at most, so nobody sees an act of the same beat.
        for place in places:
            self.move(place)
        return places

    def move_on(self):
        """Go on by beats until nobody is ready; tells how many there were."""
        beats = 0
        while self.move_all():
            beats += 1
        return beats

    def all_came(self):
        """Whether all arms rest and no sign waits."""
        return not self.queue and all(sign == REST for sign in self.shown)
