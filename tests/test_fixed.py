"""Point 32: fixed books."""

from freestrung.called import Called
from freestrung.crews import Crew
from freestrung.errors import BadScenes, Spoilt, TooMany
from freestrung.fixed import Fixed
from freestrung.handlings import handlings
from freestrung.judges import judge_crew
from freestrung.known import Known
from freestrung.playings import judge_playing, play_on
from freestrung.standings import is_free_standing, picture_of, standing_of
from tests.helpers import NO_ROWS, Case, calm_play, listed, only_tuples, play_of
from tests.models import answers_model, deeds_of
from tests.samples import sound_plays

KING = (("king",), (0,))
LEFT = (("turn", "king", "left"),)
ANY = (("turn", "king", "any"),)
CALM_CREW = Crew(1, beats=1)
REST = ((), None, None)


def holding(name, top, shown):
    return (((name,),), top, shown)


def turned(name):
    return (holding(name, "along", "left"), REST)


def calm_playings(full, singles, last=(), top="along"):
    """Playings of a calm play, of which the one of one picture turns the king with this way above."""
    gone = (holding("ghost", None, "before"), REST)
    off = tuple(holding(name, None, "before") for name in ("king", "queen", "fool"))
    told = [turned(name) for name in ("king", "queen", "fool", "ghost", "king")]
    told += [()] * (full - 2) + [gone]
    if singles:
        told += [off + (REST, holding("king", top, "left"), REST)] + [()] * (singles - 1)
    return tuple(told) + tuple(last)


def fixed_model(play, crew, playings):
    """The table, or the least row that breaks with its word, told by trying rows of calls in order."""
    found, rows = [], [((), standing_of(play.opening))]
    while rows:
        behind = []
        for row, here in rows:
            node = play.plan.node_behind(row)
            if play.plan.is_end(node) and not is_free_standing(here):
                return None, row, "free"
            if (node, here) in found:
                continue
            found.append((node, here))
            for call in play.plan.calls_at(node):
                behind.append((row + (call,), here, call))
        rows = []
        for row, here, call in behind:
            deeds = deeds_of(play, call, here)
            # A row that is not free comes ahead of a later one of as many calls that cannot be played.
            if judge_playing(crew, here, deeds, playings[call]) is not None:
                for other, after in rows:
                    if play.plan.is_end(play.plan.node_behind(other)) and not is_free_standing(after):
                        return None, other, "free"
                return None, row, "play"
            rows.append((row, play_on(crew, here, deeds, playings[call])))
    return tuple(found), None, None


def random_playings(rng, play, crew):
    """A playing for each call, that can often be played where a row of calls comes to it first."""
    told = [()] * len(play.plan)
    todo, seen = [(play.plan.first, standing_of(play.opening))], []
    for node, here in todo:
        for call in play.plan.calls_at(node):
            if call in seen:
                continue
            seen.append(call)
            answers = answers_model(play, crew, (node, here), call)
            good = [answer for answer in answers if is_free_standing(answer[0]) or rng.random() < 0.2] or answers
            if good:
                after, told[call] = good[0] if rng.random() < 0.7 else rng.choice(good)
                todo.append((play.plan[call][2], after))
    return tuple(told)


class FixedTest(Case):
    def test_one_that_holds(self):
        play = play_of({"t": ANY, "e": ()}, ["a t b", "b t a", "a e b"], opening=KING)
        playing = (holding("king", "along", "left"),)
        fixed = Fixed(play, Crew(1), (playing, playing, ()))
        hold = (("king",),)
        begun = standing_of(KING)
        front, back = [(("king",), (face,), (0,), ((1,),), hold) for face in (0, 1)]
        table = (("a", begun), ("b", back), ("b", begun), ("a", front), ("a", back), ("b", front))
        self.assertEqual((bool(fixed), fixed.row, fixed.word, fixed.table), (True, None, None, table))
        self.assertEqual((len(fixed), tuple(fixed)), (6, table))
        self.assertTrue(only_tuples(tuple(fixed)))
        self.assertEqual(Fixed(play, Crew(1), listed((playing, playing, ()))).table, table)

    def test_one_that_breaks(self):
        play = play_of({"t": LEFT, "e": ()}, ["a t b", "b e b", "b t a"], opening=KING)
        along, still = [(holding("king", top, "left"),) for top in ("along", "still")]
        for playings, row, word in (
                ((along, (), still), (0, 2), "free"), ((along, (), None), (0, 2), "play"), ((along, (None,), still), (0, 1), "play"),
                ((still, (), still), (0, 2), "play"), (((), (), ()), (0,), "play"),
                ((along, (), (holding("king", "along", "right"),)), (0, 2), "play")):
            fixed = Fixed(play, Crew(1), playings)
            self.assertEqual((bool(fixed), fixed.row, fixed.word, fixed.table), (False, row, word, None))
            self.assertEqual((len(fixed), list(fixed)), (0, []))

    def test_against_the_definition(self):
        seen = {"play": 0, "free": 0, None: 0}
        for rng, play, crew in sound_plays(85, 300):
            try:
                playings = random_playings(rng, play, crew)
            except TooMany:
                continue
            table, row, word = fixed_model(play, crew, playings)
            fixed = Fixed(play, crew, playings)
            self.assertEqual((fixed.table, fixed.row, fixed.word), (table, row, word))
            self.assertEqual((len(fixed), tuple(fixed), bool(fixed)), (len(table or ()), table or (), row is None))
            seen[word] += len(play.plan) > 0
            if table is not None:
                self.like_lies(table)
                self.played_otherwise(play, crew, playings, table)
        self.assertGreater(min(seen.values()), 5)

    def like_lies(self, table):
        """Two rows of calls to the same node and picture leave the same lie."""
        lies = {}
        for node, standing in table:
            self.assertEqual(lies.setdefault((node, picture_of(standing)), standing[3]), standing[3])

    def played_otherwise(self, play, crew, playings, table):
        """A fixed book that holds is a crew's table, too; so the crew can play every evening, called and known ahead."""
        rows = tuple((node, here, tuple(playings[call] for call in play.plan.calls_at(node))) for node, here in table)
        self.assertIsNone(judge_crew(play, crew, rows))
        try:
            self.assertTrue(Called(play, crew))
            self.assertTrue(Known(play, crew))
        except TooMany:
            pass

    def test_six_hundred_positions(self):
        fixed = Fixed(calm_play(37, 0), CALM_CREW, calm_playings(37, 0))
        self.assertEqual((len(fixed.table), fixed.word), (600, None))
        self.due(TooMany("position"), Fixed, calm_play(37, 1), CALM_CREW, calm_playings(37, 1))

    def test_a_way_out_at_the_last_position(self):
        row = (4,) + tuple(range(5, 5 + 35)) + (40, 41)
        fixed = Fixed(calm_play(37, 1), CALM_CREW, calm_playings(37, 1, top="still"))
        self.assertEqual((fixed.row, fixed.word), (row, "free"))
        fixed = Fixed(calm_play(37, 1), CALM_CREW, calm_playings(37, 0) + (None,))
        self.assertEqual((fixed.row, fixed.word), (row, "play"))
        self.due(TooMany("position"), Fixed, calm_play(37, 2), CALM_CREW, calm_playings(37, 2, top="along"))

    def test_playings_can_be_anything(self):
        play = play_of({"t": LEFT, "e": ()}, ["a t a", "a e a"], opening=KING)
        for thing in NO_ROWS + ((None,), ((),), (("king",),), ((((), None, None)),) * 2):
            fixed = Fixed(play, Crew(1), (thing, ()))
            self.assertEqual((fixed.row, fixed.word), ((0,), "play"))
        for thing in NO_ROWS + ((None,),):
            fixed = Fixed(play, Crew(1), ((holding("king", "along", "left"),), thing))
            self.assertEqual((fixed.row, fixed.word), ((1,), "play"))

    def test_errors_in_order(self):
        play = play_of({"e": ()}, ["a e a", "a e b"], ends=("a", "b"))
        for thing in NO_ROWS + ((), ((),), ((), (), ())):
            self.due(BadScenes(-1), Fixed, play, Crew(1), thing)
        self.due(Spoilt((0,)), Fixed, play_of({"bad": LEFT}, ["a bad a"]), Crew(1), None)
        self.assertTrue(Fixed(play_of({"e": ()}, []), Crew(1), ()))

    def test_handlings_go_with_the_place(self):
        """One playing does for two pictures, if each deed can be done so in both."""
        play = play_of({"t": ANY}, ["a t a"], opening=KING)
        for way in handlings(Crew(1), standing_of(KING), ANY[0]):
            fixed = Fixed(play, Crew(1), ((way,),))
            self.assertIs(bool(fixed), way[1] == "along")
