"""The document's own examples, and those of README.md."""

import doctest
import os
import unittest

README = os.path.join(os.path.dirname(os.path.dirname(os.path.abspath(__file__))), "README.md")

BOXES = """
>>> from surestreams.boxes import Box, covers
>>> columns = (('who', 'word'), ('day', 'number'))
>>> box = Box(columns, {'who': ('not', 'bob'), 'day': (1, 7)})
>>> parts = [Box(columns, {'who': 'ann'}), Box(columns, {'who': ('not', 'ann'), 'day': (None, 9)})]
>>> (('ann', 7) in box, ('bob', 7) in box, covers(parts, box), box.number())
(True, False, True, None)
"""
STREAMS = """
>>> from surestreams.streams import Stream
>>> stream = Stream('log', (('day', 'number'),))
>>> done = [stream.add((3,)), stream.promise({'day': (None, 4)}), stream.promise({'day': (6, None)})]
>>> (stream.is_open((2,)), [box.limits() for box in stream.open_boxes({})], stream.closed({'day': (1, 4)}))
(False, [{'day': (5, 5)}], True)
"""
QUERIES = """
>>> from surestreams.queries import source
>>> orders, bans = source('orders', (('who', 'word'), ('day', 'number'))), source('bans', (('who', 'word'),))
>>> query = orders['who'] - bans.where('who', '!=', 'ann')
>>> (query.columns, query.streams(), query.side('bans'), query == orders['who'] - bans)
((('who', 'word'),), ['bans', 'orders'], 'take', False)
"""
BOUNDS = """
>>> from surestreams.queries import source
>>> from surestreams.streams import Stream
>>> from surestreams.bounds import present, sure
>>> columns = (('who', 'word'),)
>>> streams = {'come': Stream('come', columns), 'gone': Stream('gone', columns)}
>>> done = [streams['come'].add(('ann',)), streams['come'].add(('bob',)), streams['gone'].promise({'who': 'bob'})]
>>> query = source('come', columns) - source('gone', columns)
>>> (present(query, streams), sure(query, streams))
([('ann',), ('bob',)], [('bob',)])
"""
ENGINE = """
>>> from surestreams.queries import source
>>> from surestreams.engine import Engine, Recorder
>>> columns = (('who', 'word'),)
>>> engine = Engine(source('come', columns) - source('gone', columns))
>>> recorder = Recorder()
>>> done = [engine.row('come', ('ann',)), engine.row('come', ('bob',)), engine.subscribe(recorder), engine.promise('gone', {'who': ('not', 'bob')})]
>>> (done, engine.waiting(), recorder.rows())
([[], [], None, [('ann',)]], [('bob',)], [('ann',)])
"""
PAPERS = """
>>> from surestreams.queries import source
>>> from surestreams.engine import Engine
>>> from surestreams.papers import reasons, removal
>>> columns = (('who', 'word'),)
>>> engine = Engine(source('come', columns) - source('gone', columns))
>>> done = [engine.row('come', ('ann',)), engine.promise('come', {}), engine.row('gone', ('bob',))]
>>> before = removal(engine, ('ann',))
>>> later = [engine.promise('gone', {'who': 'cid'}), engine.promise('gone', {})]
>>> (before, later, reasons(engine, ('ann',)))
([('gone', ('ann',))], [[], [('ann',)]], [('gone', 1)])
"""
GROUPS = """
>>> from surestreams.queries import source
>>> from surestreams.streams import Stream
>>> from surestreams.groups import counts, leasts
>>> columns = (('who', 'word'), ('day', 'number'))
>>> log = Stream('log', columns)
>>> done = [log.add(('ann', 5)), log.add(('bob', 3)), log.promise({'day': (None, 4)}), log.promise({'who': 'bob'})]
>>> (counts(source('log', columns), {'log': log}, ('who',)), leasts(source('log', columns), {'log': log}, ('who',), 'day'))
({('bob',): 1}, {('ann',): 5, ('bob',): 3})
"""
REWRITING = """
>>> from surestreams.queries import source
>>> from surestreams.rewriting import pushed, rewrites
>>> day = (('day', 'number'),)
>>> one, other = source('a', day), source('b', day)
>>> query = (one - other).where('day', '<', 5)
>>> ([(rule, path) for rule, path, result in rewrites(query)], pushed(query) == one.where('day', '<', 5) - other)
([(2, ())], True)
"""
FORMATS = """
>>> from surestreams.formats import format_limits, parse_limits
>>> columns = (('who', 'word'), ('day', 'number'))
>>> (format_limits(columns, {'day': (3, None), 'who': 'ann'}), parse_limits(columns, 'who!ann,bob day=0..9'))
('who=ann day=3..', {'who': ('not', 'ann', 'bob'), 'day': (0, 9)})
"""
CONSOLE = """
>>> from surestreams.queries import source
>>> from surestreams.console import Console
>>> who = (('who', 'word'),)
>>> console = Console(source('come', who) - source('gone', who))
>>> texts = [console.execute('row come ann'), console.execute('why ann'), console.execute('promise gone who=ann')]
>>> (texts, console.execute("open gone bob"))
(['-', 'gone ann', 'ann'], 'yes')
"""
CERTIFICATES = """
>>> from surestreams.queries import source
>>> from surestreams.streams import Stream
>>> from surestreams.certificates import certificate, is_certificate
>>> columns = (('a', 'word'), ('b', 'word'))
>>> way, cut = Stream('way', columns), Stream('cut', columns)
>>> done = [way.add(('x', 'y')), way.add(('y', 'z')), cut.promise({'a': 'x', 'b': ('not', 'x')}), cut.promise({'a': 'x'})]
>>> query = source('way', columns).closure() - source('cut', columns).closure()
>>> paper = certificate(query, {'way': way, 'cut': cut}, ('x', 'z'))
>>> (paper[1], is_certificate(query, {'way': way, 'cut': cut}, ('x', 'z'), paper))
(('chain', (('x', 'y'), ('y', 'z')), (('row',), ('row',))), True)
"""
AUDIT = """
>>> from surestreams.queries import source
>>> from surestreams.audit import is_report, report
>>> who = (('who', 'word'),)
>>> query = source('come', who) - source('gone', who)
>>> told = report(query, [('row', 'come', ('ann',)), ('promise', 'gone', {})])
>>> (told[0][2], [row for row, paper in told[1][1]], is_report(query, told))
([(('ann',), [('gone', ('ann',))])], [('ann',)], True)
"""
LANGUAGE = """
>>> from surestreams.language import format_query, parse_query
>>> from surestreams.queries import source
>>> who = (('who', 'word'),)
>>> known = {'come': source('come', who), 'gone': source('gone', who)}
>>> query = parse_query('((come)-gone) {who!=ann}', known)
>>> format_query(query)
'(come - gone){who != ann}'
"""
HUB = """
>>> from surestreams.hub import Hub
>>> who = (('who', 'word'),)
>>> hub = Hub()
>>> done = [hub.declare('come', who), hub.declare('gone', who), hub.define('left', 'come - gone')]
>>> told = hub.commit([('row', 'come', ('ann',)), ('row', 'come', ('bob',)), ('promise', 'gone', {'who': 'bob'})])
>>> more = [hub.subscribe('x', 'left'), hub.pending('x'), hub.acknowledge('x', 1), hub.pending('x')]
>>> (done, told, more, hub.journal().splitlines()[2], Hub.recovered(hub.journal()[:60]).streams())
([None, None, []], {'left': [('bob',)]}, [None, [(0, ('bob',))], None, []], '2 23 define left come - gone', ['come', 'gone'])
"""
TERMINAL = """
>>> from surestreams.terminal import Terminal
>>> terminal = Terminal()
>>> texts = [terminal.execute(word) for word in ['declare come who:word', 'declare gone who:word', 'define left come - gone', 'commit row come ann; promise gone *']]
>>> (texts, terminal.execute('sure come[who]'), terminal.execute('crash 30'), terminal.execute('streams'))
(['ok', 'ok', '-', 'left ann'], 'ann', 'ok', 'come')
"""


class ExamplesTest(unittest.TestCase):
    def holds(self, text, name):
        test = doctest.DocTestParser().get_doctest(text, {}, name, None, 0)
        self.assertTrue(test.examples)
        failed, _ = doctest.DocTestRunner(verbose=False).run(test)
        self.assertEqual(failed, 0)

    def test_boxes(self):
        self.holds(BOXES, "boxes")

    def test_streams(self):
        self.holds(STREAMS, "streams")

    def test_queries(self):
        self.holds(QUERIES, "queries")

    def test_bounds(self):
        self.holds(BOUNDS, "bounds")

    def test_engine(self):
        self.holds(ENGINE, "engine")

    def test_papers(self):
        self.holds(PAPERS, "papers")

    def test_groups(self):
        self.holds(GROUPS, "groups")

    def test_rewriting(self):
        self.holds(REWRITING, "rewriting")

    def test_formats(self):
        self.holds(FORMATS, "formats")

    def test_console(self):
        self.holds(CONSOLE, "console")

    def test_certificates(self):
        self.holds(CERTIFICATES, "certificates")

    def test_audit(self):
        self.holds(AUDIT, "audit")

    def test_language(self):
        self.holds(LANGUAGE, "language")

    def test_hub(self):
        self.holds(HUB, "hub")

    def test_terminal(self):
        self.holds(TERMINAL, "terminal")

    def test_readme(self):
        with open(README, encoding="ascii") as file:
            self.holds(file.read(), "README.md")


if __name__ == "__main__":
    unittest.main()
