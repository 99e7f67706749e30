"""Points 2, 3 (k) and 15: reports of histories."""

import unittest
from copy import deepcopy

from surestreams.audit import is_report, report
from surestreams.certificates import is_certificate
from surestreams.engine import Engine
from surestreams.errors import BrokenPromise, InvalidEvent
from surestreams.papers import is_removal
from surestreams.queries import source
from surestreams.streams import Stream
from tests.judge import certifies, is_a_row
from tests.plain import columns_of, drawn_history, evaluated, now
from tests.test_certificates import NO_PAPERS, changed_once
from tests.test_engine import NO_EVENTS

WHO = (("who", "word"),)
COME, GONE, LOST = source("come", WHO), source("gone", WHO), source("lost", WHO)
LEFT = COME - GONE
ANN, BOB = ("ann",), ("bob",)
ROW, C0 = ("row",), ("closed", (0,))
COMES, GOES, SHUT = ("row", "come", ANN), ("promise", "gone", {"who": "ann"}), ("promise", "gone", {})
SURE = (ANN, ("minus", ROW, C0))
WAITS = (ANN, [("gone", ANN)])
GOOD = [(COMES, [], [WAITS]), (GOES, [SURE], []), (("row", "come", BOB), [], [(BOB, [("gone", BOB)])]), (SHUT, [(BOB, ("minus", ROW, ("closed", (1,))))], [])]


def streams_after(query, events):
    """Returns the streams of a query after events."""
    streams = {name: Stream(name, columns) for name, columns in columns_of(query).items()}
    for kind, name, value in events:
        if kind == "row":
            streams[name].add(value)
        else:
            streams[name].promise(value)
    return streams


def is_pair(columns, value):
    """Returns whether any value is a pair of a row and any value."""
    return type(value) is tuple and len(value) == 2 and is_a_row(columns, value[0])


def judged(query, value):
    """Returns whether a list of entries with good events is a report, read word by word from the document."""
    given_out = []
    for at, (_, given, waiting) in enumerate(value):
        streams = streams_after(query, [event for event, _, _ in value[:at + 1]])
        if not all(type(each) is list and all(is_pair(query.columns, pair) for pair in each) for each in (given, waiting)):
            return False
        given_out += [row for row, _ in given]
        if sorted(given_out + [row for row, _ in waiting]) != sorted(evaluated(query, now(query, streams))):
            return False
        if not all(certifies(query, streams, row, paper) for row, paper in given):
            return False
        if not all(removes(query, streams, row, paper) for row, paper in waiting):
            return False
    return True


def removes(query, streams, row, paper):
    """Returns whether a value is a list of pairs of open rows after which a row is not in the result."""
    if type(paper) is not list:
        return False
    rows = now(query, streams)
    for pair in paper:
        if type(pair) is not tuple or len(pair) != 2 or type(pair[0]) is not str or pair[0] not in streams:
            return False
        stream = streams[pair[0]]
        if not is_a_row(stream.columns, pair[1]) or not stream.is_open(pair[1]):
            return False
        rows[pair[0]].add(pair[1])
    return row not in evaluated(query, rows)


def with_entry(value, at, entry):
    """Returns a report with another entry."""
    return value[:at] + [entry] + value[at + 1:]


class ReportTest(unittest.TestCase):
    def test_drawn_histories(self):
        for seed in range(150):
            _, query, events = drawn_history(seed, 5, 16)
            found = report(query, events)
            engine = Engine(query)
            self.assertEqual([event for event, _, _ in found], events)
            for event, given, waiting in found:
                rows = [row for _, row in engine.feed([event])]
                streams = {name: engine.stream_of(name) for name in query.streams()}
                with self.subTest(seed=seed):
                    self.assertEqual([row for row, _ in given], rows)
                    self.assertEqual([row for row, _ in waiting], engine.waiting())
                    self.assertTrue(all(is_certificate(query, streams, row, paper) for row, paper in given))
                    self.assertTrue(all(is_removal(engine, row, paper) for row, paper in waiting))
            with self.subTest(seed=seed):
                for number in range(len(found) + 1):
                    self.assertIs(is_report(query, found[:number]), True)
                self.assertTrue(judged(query, found))

    def test_forms(self):
        found = report(LEFT, [COMES, GOES])
        self.assertEqual(found, GOOD[:2])
        self.assertEqual([type(each) for each in (found, found[0], found[0][0], found[0][1], found[0][2], found[0][2][0])], [list, tuple, tuple, list, list, tuple])
        self.assertEqual(report(LEFT, []), [])
        self.assertEqual(report(COME, [COMES, COMES]), [(COMES, [(ANN, ROW)], []), (COMES, [], [])])

    def test_first_error(self):
        for events, index in (
            ([("promise", "come", {}), COMES], 0), ([("promise", "gone", {}), ("promise", "come", {"who": "bob"}), ("promise", "come", {}), COMES], 1),
            ([COMES, SHUT, ("row", "gone", ANN), ("row", "left", ANN)], 0), ([SHUT, ("row", "gone", ANN), None], 0),
        ):
            with self.assertRaises(BrokenPromise) as caught:
                report(LEFT, events)
            self.assertEqual(caught.exception.index, index)
        for value in NO_EVENTS:
            for events in ([value], [COMES, value], [COMES, SHUT, value, ("row", "gone", ANN), None], [value, None]):
                with self.assertRaises(InvalidEvent) as caught:
                    report(LEFT, events)
                self.assertIs(caught.exception.value, value)

    def test_new_values(self):
        events = [COMES, ("promise", "gone", {"who": ("in", "ann", "ann")})]
        before = deepcopy(events)
        found = report(LEFT, events)
        self.assertEqual(events, before)
        found[1][0][2].clear()
        found[0][2].clear()
        self.assertEqual(events, before)
        self.assertEqual(report(LEFT, events)[0][2], [WAITS])
        value = deepcopy(GOOD)
        self.assertIs(is_report(LEFT, value), True)
        self.assertEqual(value, GOOD)

    def test_by_name(self):
        self.assertEqual(report(events=[COMES], query=LEFT), GOOD[:1])
        self.assertIs(is_report(value=GOOD, query=LEFT), True)


class IsReportTest(unittest.TestCase):
    def told(self, value, expected):
        with self.subTest(value=value):
            self.assertIs(is_report(LEFT, value), expected)

    def test_good_ones(self):
        for number in range(len(GOOD) + 1):
            self.told(GOOD[:number], True)

    def test_rows_earlier_or_later(self):
        self.told([(COMES, [SURE], []), (GOES, [], [])], False)
        self.told([(COMES, [(ANN, ("minus", ROW, ("empty",)))], []), (GOES, [], [])], False)
        self.told([(COMES, [], [WAITS]), (GOES, [], [WAITS])], False)
        self.told([(COMES, [], [WAITS]), (GOES, [], []), (SHUT, [SURE], [])], False)
        self.told([(COMES, [], [WAITS]), (GOES, [], [(ANN, [])]), (SHUT, [SURE], [])], False)
        self.told([(COMES, [], [WAITS]), (GOES, [SURE], []), (SHUT, [SURE], [])], False)
        self.told([(COMES, [], [WAITS]), (GOES, [SURE, SURE], [])], False)
        self.told([(COMES, [], [WAITS]), (GOES, [SURE], [WAITS])], False)
        self.told([(COMES, [], [WAITS]), (GOES, [SURE, (BOB, SURE[1])], [])], False)

    def test_entries_left_out_doubled_or_exchanged(self):
        for at in range(3):
            self.told(GOOD[:at] + GOOD[at + 1:], False)
        for at in (1, 3):
            self.told(GOOD[:at + 1] + GOOD[at:], False)
        for at in range(3):
            self.told(GOOD[:at] + [GOOD[at + 1], GOOD[at]] + GOOD[at + 2:], False)
        self.told(GOOD[::-1], False)

    def test_papers_of_another_moment(self):
        late = (BOB, ("minus", ROW, ("closed", (1,))))
        self.told(with_entry(GOOD, 3, (SHUT, [late], [])), True)
        self.told(with_entry(GOOD, 3, (SHUT, [(BOB, ("minus", ROW, C0))], [])), False)
        self.told(with_entry(GOOD, 1, (GOES, [(ANN, ("minus", ROW, ("closed", (1,))))], [])), False)
        self.told(with_entry(GOOD, 2, (GOOD[2][0], [], [(BOB, [("gone", ANN)])])), False)
        self.told(with_entry(GOOD, 2, (GOOD[2][0], [], [(BOB, [("gone", BOB), ("gone", ANN)])])), False)
        self.told(with_entry(GOOD, 0, (COMES, [], [(ANN, [("gone", ANN), ("come", ANN)])])), False)

    def test_waiting_rows_left_out_or_added(self):
        self.told([(COMES, [], [])], False)
        self.told([(COMES, [], [WAITS, WAITS])], False)
        self.told([(COMES, [], [WAITS, (BOB, [("gone", BOB)])])], False)
        self.told([(COMES, [], [(BOB, [("gone", BOB)])])], False)

    def test_papers_that_are_only_longer(self):
        long = [("gone", ANN), ("gone", BOB), ("come", BOB), ("gone", ANN)]
        for paper in (long, long[::-1], long * 2, [("gone", ANN)] * 3):
            self.told(with_entry(GOOD, 0, (COMES, [], [(ANN, paper)])), True)
        for paper in (("closed", (0, 0)), ("split", (({}, C0), ({}, C0))), ("split", (({"who": ("in",)}, ("empty",)), ({"who": "ann"}, C0)))):
            self.told(with_entry(GOOD, 1, (GOES, [(ANN, ("minus", ROW, paper))], [])), True)
        for paper in (("closed", (0, 1, 1)), ("closed", (1, 0)), ("split", (({"who": "bob"}, ("closed", (1,))), ({}, ("closed", (1, 0)))))):
            self.told(with_entry(GOOD, 3, (SHUT, [(BOB, ("minus", ROW, paper))], [])), True)

    def test_order_of_rows_within_an_entry(self):
        rows = [("row", "come", (word,)) for word in ("ann", "bob")]
        found = report(LEFT, rows + [SHUT])
        for at, part in ((1, 2), (2, 1)):
            entry = list(found[at])
            entry[part] = entry[part][::-1]
            self.told(with_entry(found, at, tuple(entry)), True)

    def test_events(self):
        for event in NO_EVENTS:
            self.told([(event, [], [])], False)
            self.told(GOOD + [(event, [], [])], False)
        self.told(GOOD + [(("row", "gone", ("cid",)), [], [])], False)
        self.told(GOOD + [(("row", "come", ANN), [], [])], True)
        self.told(GOOD + [(("promise", "come", {}), [], []), (("row", "come", ("cid",)), [], [])], False)
        self.told(GOOD + [(("promise", "come", {}), [], []), (("promise", "come", {}), [], [])], True)

    def test_values_of_every_other_kind(self):
        for value in NO_PAPERS:
            is_void = isinstance(value, list) and not value
            self.told(value, is_void)
            self.told([value], False)
            self.told([(COMES, value, [WAITS])], is_void)
            self.told([(COMES, [], value)], False)
            self.told([(COMES, [value], [WAITS])], False)
            self.told([(COMES, [], [value])], False)
            self.told([(COMES, [], [(value, WAITS[1])])], False)
            self.told([(COMES, [], [(ANN, value)])], False)
            self.told([(COMES, [], [(ANN, [value])])], False)
            self.told([(COMES, [], [(ANN, [("gone", value)])])], False)
            self.told([(COMES, [], [(ANN, [(value, ANN)])])], False)
            self.told([(value, [], [WAITS])], False)
            self.told([(COMES, [], [WAITS]), (GOES, [(ANN, value)], [])], False)
            self.told([(COMES, [], [WAITS]), (GOES, [(value, SURE[1])], [])], False)
        for entry in GOOD[0] + (None,):
            self.told([entry], False)
        self.told([list(GOOD[0])], False)
        self.told([GOOD[0] + ([],)], False)
        self.told([GOOD[0][:2]], False)
        self.told([(COMES, (), [WAITS])], False)
        self.told([(COMES, [], (WAITS,))], False)
        self.told([(COMES, [], [list(WAITS)])], False)
        self.told([(COMES, [], [WAITS + (1,)])], False)
        self.told([(COMES, [], [(ANN, tuple(WAITS[1]))])], False)
        self.told(tuple(GOOD), False)

    def test_of_another_query(self):
        self.assertIs(is_report(GONE - COME, GOOD), False)
        self.assertIs(is_report(COME, GOOD), False)
        self.assertIs(is_report(LEFT - LOST, GOOD), False)
        self.assertIs(is_report(LEFT - LOST, []), True)

    def test_changed_reports_are_judged_by_what_they_say(self):
        counted = {True: 0, False: 0}
        for seed in range(250):
            chance, query, events = drawn_history(seed, 4, 8)
            found = report(query, events)
            for _ in range(8):
                at = chance.randrange(len(found)) if found else None
                if at is None or not found[at][1] + found[at][2]:
                    continue
                event, given, waiting = deepcopy(found[at])
                which = given if given and (not waiting or chance.random() < 0.5) else waiting
                index = chance.randrange(len(which))
                row, paper = which[index]
                if which is given:
                    which[index] = (row, changed_once(chance, paper, query.columns))
                else:
                    which[index] = (row, chance.choice([paper[1:], paper + paper[:1], paper[::-1], [("come", row)], tuple(paper), paper + [("q", row)]]))
                other = with_entry(found, at, (event, given, waiting))
                with self.subTest(seed=seed, at=at):
                    accepted = is_report(query, other)
                    self.assertIs(accepted, judged(query, other))
                    counted[accepted] += 1
        self.assertGreater(min(counted.values()), 60)


if __name__ == "__main__":
    unittest.main()
