"""[71], [72], [74], [75] maps, with [70] on values."""

import itertools
import unittest

from leancatalog.answers import are_data, columns_of, rows_of_union
from leancatalog.catalogs import Catalog
from leancatalog.changes import done, run
from leancatalog.errors import Misfit, NoItem, NoName, TooMany
from leancatalog.maps import frozen, is_map, map_of, within, written
from tests.drawn import Drawing
from tests.queries import ONE, TEXT, TWO, T, U, V, of, part, tables, var, view
from tests.stub import Odd, all_sorts

class Errors(unittest.TestCase):
    def raises(self, error, fields, catalog, *parts):
        with self.assertRaises(error) as caught:
            written(catalog, parts)
        self.assertEqual(vars(caught.exception), fields)

    def test_refs_that_tell_nothing(self):
        catalog = tables()
        self.raises(NoName, {"space": "relation", "name": "zz"}, catalog, part("o:zz", [], ONE))
        self.raises(NoName, {"space": "relation", "name": "t"}, done(catalog, ("path", ())), part("o:t", [], ONE))
        self.raises(NoItem, {"address": ("table", "app", "zz")}, catalog, ((("o", ("app", "zz")),), (), (ONE,)))
        self.raises(NoItem, {"address": ("table", "none", "t")}, catalog, ((("o", ("none", "t")),), (), (ONE,)))

    def test_other_kinds_of_items(self):
        catalog = run(tables(), [
            ("create", "sequence", "q", (None,)), ("create", "index", "i", ("t", (ONE,))), ("create", "schema", "none", ()),
            ("create", "sequence", ("none", "u"), (None,)),
        ])
        for name in ["q", "i", "u"]:
            self.raises(NoName, {"space": "relation", "name": name}, catalog, part("o:" + name, [], ONE))
        self.raises(NoItem, {"address": ("table", "app", "q")}, catalog, ((("o", ("app", "q")),), (), (ONE,)))

    def test_the_first_ref_in_the_order_of_the_sources(self):
        catalog = tables()
        self.raises(NoName, {"space": "relation", "name": "zz"}, catalog, part("o:t p:zz", [], ONE), part("o:aa", [], ONE))
        query = (((("o", "t"), ("p", ("app", "zz"))), (), (ONE,)), ((("o", "aa"),), (), (ONE,)))
        self.raises(NoItem, {"address": ("table", "app", "zz")}, catalog, *query)
        self.raises(NoName, {"space": "relation", "name": "aa"}, catalog, *query[::-1])

    def test_columns_that_are_not_there(self):
        catalog = tables(("w", view(1, "x", part("o:t", [], of("o", "a")))))
        nothing = {"address": None}
        for outputs, conditions in [
            ([of("o", "z")], []), ([of("w", "a")], []), ([ONE], [(of("o", "z"), ONE)]),
            ([ONE], [(of("w", "x"), of("w", "c"))]), ([ONE], [(of("o", "z"), of("o", "z"))]),
        ]:
            self.raises(Misfit, nothing, catalog, part("o:t w:w", conditions, *outputs))

    def test_types(self):
        catalog = tables(("w", view(1, "x y", part("o:t", [], of("o", "a"), TEXT))))
        nothing = {"address": None}
        for conditions in [
            [(of("o", "a"), TEXT)], [(of("o", "c"), ONE)], [(of("o", "a"), of("o", "c"))], [(of("w", "x"), of("o", "c"))],
            [(of("w", "y"), ONE)], [(of("o", "a"), of("o", "b")), (of("w", "y"), of("w", "x"))],
        ]:
            self.raises(Misfit, nothing, catalog, part("o:t w:w", conditions, ONE))
        for outputs in [(TEXT,), (of("o", "c"),)]:
            self.raises(Misfit, nothing, catalog, part("o:t", [], ONE), part("o:t", [], *outputs))
            self.raises(Misfit, nothing, catalog, part("o:t", [], *outputs), part("o:t", [], of("o", "b")))

    def test_refs_ahead_of_columns_and_columns_ahead_of_what_is_too_much(self):
        eight = tables(("w", view(1, "x", *[part("o:t p:t q:t", [], ONE)] * 3)))
        self.raises(NoName, {"space": "relation", "name": "zz"}, eight, part("o:t", [], of("o", "z")), part("o:zz", [], ONE))
        self.raises(Misfit, {"address": None}, eight, part("o:w p:w q:w", [], of("o", "z")))
        self.raises(TooMany, {"limit": 8}, eight, part("o:w p:w q:w", [], ONE))

    def test_eight_joins_and_nine(self):
        catalog = tables(
            ("two", view(1, "x", *[part("o:v", [], of("o", "a"))] * 2)), ("three", view(1, "x", *[part("o:v", [], ONE)] * 3)),
        )
        both = part("o:two p:two q:two", [], of("o", "x"))
        self.assertEqual(len(written(catalog, (both,))), 8)
        self.raises(TooMany, {"limit": 8}, catalog, both, part("o:v", [], ONE))
        self.raises(TooMany, {"limit": 8}, catalog, part("o:three p:three", [], ONE))
        self.assertEqual(len(written(catalog, (part("o:three p:two", [], ONE), part("o:two", [], ONE)))), 8)

    def test_six_tables_and_seven(self):
        catalog = tables(
            ("three", view(1, "x", part("o:t p:u q:v", [], ONE))), ("some", view(1, "x", part("o:v", [], ONE), part("o:t p:u", [], TWO))),
        )
        self.assertEqual(len(written(catalog, (part("o:three p:three", [], ONE),))[0][0]), 6)
        self.assertEqual(len(written(catalog, (part("o:three p:some q:v", [], ONE),))), 2)
        self.raises(TooMany, {"limit": 6}, catalog, part("o:three p:three q:v", [], ONE))
        self.raises(TooMany, {"limit": 6}, catalog, part("o:three p:some q:some", [], ONE))
        self.raises(TooMany, {"limit": 6}, catalog, part("o:v", [], ONE), part("o:three p:three q:v", [], ONE))

    def test_eight_ahead_of_six(self):
        catalog = tables(("many", view(1, "x", *[part("o:t p:u q:v", [], ONE)] * 3)))
        self.raises(TooMany, {"limit": 8}, catalog, part("o:many p:many q:many", [], ONE))

    def test_joins_that_are_left_out_count(self):
        never = [(of("o", "a"), ONE), (of("o", "a"), TWO)]
        catalog = tables(
            ("two", view(1, "x", part("o:v", never, of("o", "a")), part("o:v", never, ONE))),
            ("three", view(1, "x", part("o:v p:v q:v", never, ONE))),
        )
        self.assertEqual(written(catalog, (part("o:two p:two q:two", [], ONE),)), [])
        self.raises(TooMany, {"limit": 8}, catalog, part("o:two p:two q:two", [], ONE), part("o:v", [], ONE))
        self.assertEqual(written(catalog, (part("o:three p:three", [], ONE),)), [])
        self.raises(TooMany, {"limit": 6}, catalog, part("o:three p:three q:v", [], ONE))

    def test_however_many_there_would_be(self):
        views = [("wa", view(1, "x", *[part("o:v p:v q:v", [], ONE)] * 4))]
        for layer, name in enumerate("bcdefghi", 2):
            below = views[-1][0]
            views.append(("w" + name, view(layer, "x", *[part(f"o:{below} p:{below} q:{below}", [], ONE)] * 4)))
        self.raises(TooMany, {"limit": 8}, tables(*views), *[part("o:wi p:wi q:wi", [], ONE)] * 4)
        views = [("wa", view(1, "x", part("o:v p:v q:v", [], ONE)))]
        for layer, name in enumerate("bcdefghi", 2):
            below = views[-1][0]
            views.append(("w" + name, view(layer, "x", part(f"o:{below} p:{below} q:{below}", [], ONE))))
        self.raises(TooMany, {"limit": 6}, tables(*views), part("o:wi p:wi q:wi", [], ONE))


class Written(unittest.TestCase):
    def check(self, catalog, parts, *joins):
        self.assertEqual(written(catalog, tuple(parts)), list(joins))

    def test_columns_that_conditions_and_outputs_name_in_ascending_order(self):
        catalog = tables()
        self.check(catalog, [part("o:t", [], of("o", "c"))], (((T, (("c", var(0)),)),), (var(0),)))
        self.check(catalog, [part("o:t", [], of("o", "c"), of("o", "a"))],
                   (((T, (("a", var(0)), ("c", var(1)))),), (var(1), var(0))))
        self.check(catalog, [part("o:t", [(of("o", "b"), ONE)], TEXT)], (((T, (("b", ONE),)),), (TEXT,)))
        self.check(catalog, [part("o:t", [], ONE)], (((T, ()),), (ONE,)))
        self.check(catalog, [part("o:t p:t", [], of("p", "a"))], (((T, ()), (T, (("a", var(0)),))), (var(0),)))

    def test_texts_that_are_aliases_or_words(self):
        catalog = tables()
        for text in ["o", "of", "c", "var", "at"]:
            told = ("text", text)
            self.check(catalog, [part("o:t", [(of("o", "c"), told)], told, of("o", "c"))], (((T, (("c", told),)),), (told, told)))

    def test_full_refs(self):
        catalog = done(tables(), ("path", ()))
        self.check(catalog, [((("o", ("app", "t")),), (), (of("o", "c"),))], (((T, (("c", var(0)),)),), (var(0),)))

    def test_variables_are_numbered_as_they_first_stand_in_the_atoms(self):
        self.check(tables(), [part("o:t p:u", [(of("p", "a"), of("o", "b"))], of("p", "c"), of("o", "c"), of("o", "a"))], (
            ((T, (("a", var(0)), ("b", var(1)), ("c", var(2)))), (U, (("a", var(1)), ("c", var(3))))),
            (var(3), var(2), var(0)),
        ))

    def test_columns_that_conditions_join_directly_and_by_way_of_others(self):
        self.check(tables(), [part("o:t p:u q:v", [
            (of("o", "a"), of("p", "a")), (of("q", "a"), of("o", "b")), (of("p", "a"), of("q", "a")),
        ], of("o", "a"))], (
            ((T, (("a", var(0)), ("b", var(0)))), (U, (("a", var(0)),)), (V, (("a", var(0)),))), (var(0),),
        ))
        self.check(tables(), [part("o:t", [(of("o", "a"), of("o", "a"))], ONE)], (((T, (("a", var(0)),)),), (ONE,)))

    def test_the_constant_if_there_is_one(self):
        self.check(tables(), [part("o:t p:u", [
            (of("o", "a"), of("p", "a")), (of("o", "b"), of("o", "a")), (of("o", "b"), TWO), (of("o", "c"), TEXT),
        ], of("p", "a"), of("p", "c"))], (
            ((T, (("a", TWO), ("b", TWO), ("c", TEXT))), (U, (("a", TWO), ("c", var(0))))), (TWO, var(0)),
        ))

    def test_conditions_that_join_constants(self):
        alike = [(of("o", "a"), ONE), (of("o", "a"), ONE)]
        unlike = [(of("o", "a"), ONE), (of("o", "b"), of("o", "a")), (of("o", "b"), TWO)]
        texts = [(of("o", "c"), TEXT), (of("o", "c"), ("text", ""))]
        self.check(tables(), [part("o:t", alike, of("o", "a"))], (((T, (("a", ONE),)),), (ONE,)))
        self.check(tables(), [part("o:t", unlike, of("o", "a"))])
        self.check(tables(), [part("o:t", texts, ONE)])
        self.check(tables(), [part("o:t", unlike, ONE), part("o:v", [], TWO), part("o:t", texts, ONE)], (((V, ()),), (TWO,)))
        self.check(tables(), [part("o:t", [(of("o", "a"), ONE), (of("o", "b"), TWO)], ONE)],
                   (((T, (("a", ONE), ("b", TWO))),), (ONE,)))

    def test_a_view(self):
        catalog = tables(("w", view(1, "x y", part("o:t p:u", [(of("o", "c"), of("p", "c"))], of("p", "a"), of("o", "b")))))
        terms = ((T, (("b", var(0)), ("c", var(1)))), (U, (("a", var(2)), ("c", var(1)))))
        self.check(catalog, [part("w:w", [], of("w", "y"), of("w", "x"))], (terms, (var(0), var(2))))
        self.check(catalog, [part("w:w", [], of("w", "y"))], (terms, (var(0),)))
        self.check(catalog, [part("w:w", [], ONE)], (terms, (ONE,)))
        self.check(catalog, [part("w:w", [(of("w", "x"), of("w", "y"))], of("w", "x"))], (
            ((T, (("b", var(0)), ("c", var(1)))), (U, (("a", var(0)), ("c", var(1))))), (var(0),),
        ))
        self.check(catalog, [part("w:w", [(of("w", "x"), TWO)], of("w", "x"))], (
            ((T, (("b", var(0)), ("c", var(1)))), (U, (("a", TWO), ("c", var(1))))), (TWO,),
        ))

    def test_the_atoms_of_a_view_in_its_place(self):
        catalog = tables(("w", view(1, "x", part("o:t p:u", [], of("p", "a")))))
        self.check(catalog, [part("a:v b:w c:v", [(of("c", "a"), of("b", "x"))], of("a", "a"))], (
            ((V, (("a", var(0)),)), (T, ()), (U, (("a", var(1)),)), (V, (("a", var(1)),))), (var(0),),
        ))

    def test_one_view_twice(self):
        catalog = tables(("w", view(1, "x", part("o:t", [], of("o", "a")))))
        self.check(catalog, [part("a:w b:w", [], of("b", "x"), of("a", "x"))], (
            ((T, (("a", var(0)),)), (T, (("a", var(1)),))), (var(1), var(0)),
        ))
        self.check(catalog, [part("a:w b:w", [(of("a", "x"), of("b", "x"))], of("b", "x"))], (
            ((T, (("a", var(0)),)), (T, (("a", var(0)),))), (var(0),),
        ))

    def test_outputs_of_a_view_that_are_constants(self):
        catalog = tables(
            ("w", view(1, "x y", part("o:v", [], ONE, TEXT), part("o:v", [], TWO, ("text", "")))),
            ("z", view(1, "x", part("o:v", [], TWO))),
        )
        self.check(catalog, [part("w:w", [], of("w", "y"))], (((V, ()),), (TEXT,)), (((V, ()),), (("text", ""),)))
        self.check(catalog, [part("w:w", [(of("w", "x"), ONE)], of("w", "y"))], (((V, ()),), (TEXT,)))
        self.check(catalog, [part("w:w z:z", [(of("w", "x"), of("z", "x"))], of("w", "y"))],
                   (((V, ()), (V, ())), (("text", ""),)))
        self.check(catalog, [part("w:w o:t", [(of("o", "a"), of("w", "x"))], of("o", "a"))],
                   (((V, ()), (T, (("a", ONE),))), (ONE,)), (((V, ()), (T, (("a", TWO),))), (TWO,)))
        self.check(catalog, [part("w:w o:t", [(of("o", "a"), of("w", "x")), (of("o", "a"), TWO)], of("o", "a"))],
                   (((V, ()), (T, (("a", TWO),))), (TWO,)))
        self.check(catalog, [part("w:w", [(of("w", "x"), of("w", "x"))], ONE)], (((V, ()),), (ONE,)), (((V, ()),), (ONE,)))

    def test_views_over_views(self):
        catalog = tables(
            ("wa", view(1, "x y", part("o:t", [(of("o", "b"), ONE)], of("o", "a"), of("o", "c")))),
            ("wb", view(3, "c d", part("a:wa u:u", [(of("a", "x"), of("u", "a"))], of("a", "y"), of("u", "c")))),
        )
        self.check(catalog, [part("v:v w:wb", [(of("w", "c"), of("w", "d"))], of("w", "c"))], (
            ((V, ()), (T, (("a", var(0)), ("b", ONE), ("c", var(1)))), (U, (("a", var(0)), ("c", var(1))))), (var(1),),
        ))

    def test_joins_in_the_order_of_the_choices(self):
        catalog = tables(
            ("wa", view(1, "x", part("o:t", [], of("o", "a")), part("o:u", [], of("o", "a")))),
            ("wb", view(2, "x", part("o:v", [], of("o", "a")), part("o:wa", [], of("o", "x")))),
        )
        at = lambda table: (table, (("a", var(0)),))
        other = lambda table: (table, (("a", var(1)),))
        self.check(catalog, [part("o:wb", [], of("o", "x")), part("o:wa", [], of("o", "x"))], *[
            ((at(table),), (var(0),)) for table in [V, T, U, T, U]
        ])
        self.check(catalog, [part("o:wa p:wb", [], of("o", "x"), of("p", "x"))], *[
            ((at(one), other(two)), (var(0), var(1))) for one in [T, U] for two in [V, T, U]
        ])
        self.check(catalog, [part("o:wb p:wa", [], of("p", "x"))], *[
            ((at(one), other(two)), (var(1),)) for one in [V, T, U] for two in [T, U]
        ])

    def test_joins_alike_stay(self):
        self.check(tables(), [part("o:v", [], ONE)] * 3, *[(((V, ()),), (ONE,))] * 3)

    def test_columns_of_the_query_and_of_the_view_of_one_table_are_apart(self):
        catalog = tables(("w", view(1, "a", part("o:t", [], of("o", "b")))))
        self.check(catalog, [part("o:t w:w", [], of("o", "a"), of("w", "a"))], (
            ((T, (("a", var(0)),)), (T, (("b", var(1)),))), (var(0), var(1)),
        ))

    def test_against_another_way_of_writing_out(self):
        many = 0
        for seed in range(60):
            drawing = Drawing(seed)
            catalog = drawing.catalog(40, ["table"] * 2 + ["column"] * 5 + ["view"] * 4)
            sources = drawing.items(catalog, "table", "view") + drawing.items(catalog, "view") * 2
            for _ in range(5 if sources else 0):
                query = drawing.query(catalog, sources, 3, 3)
                flat = flat_joins(catalog, query)
                too_many = 8 if len(flat) > 8 else 6 if max(len(one[0]) for one in flat) > 6 else None
                try:
                    joins = written(catalog, query)
                except TooMany as error:
                    self.assertEqual(error.limit, too_many)
                    continue
                self.assertIsNone(too_many)
                self.assertEqual(joins, [one for one in map(told_again, flat) if one is not None])
                many += len(joins)
        self.assertGreater(many, 300)


def flat_joins(catalog, query):
    """The choices of a query: the tables with the columns named, pairs of terms to be the same, the outputs."""
    found = []
    for sources, conditions, outputs in query:
        options = []
        for alias, ref in sources:
            if ("view",) + ref in catalog:
                _, names, inner = catalog[("view",) + ref]
                options.append([(atoms, same, dict(zip(names, ends))) for atoms, same, ends in flat_joins(catalog, inner)])
            else:
                sides = [side for pair in conditions for side in pair] + list(outputs)
                named = sorted({side[2] for side in sides if side[:2] == ("of", alias)})
                options.append([([(("table",) + ref, named)], [], {name: (0, name) for name in named})])
        for chosen in itertools.product(*options):
            atoms, same, told = [], [], {}
            for (alias, _), (more, pairs, columns) in zip(sources, chosen):
                shift = len(atoms)

                def moved(term):
                    return (term[0] + shift, term[1]) if isinstance(term[0], int) else term

                told.update({("of", alias, name): moved(columns[name]) for name in columns})
                same += [(moved(one), moved(other)) for one, other in pairs]
                atoms += more
            same += [(told.get(one, one), told.get(other, other)) for one, other in conditions]
            found.append((atoms, same, [told.get(end, end) for end in outputs]))
    return found


def told_again(flat):
    """The join of a choice, by giving one of two terms the other's label until all pairs have one; None if left out."""
    atoms, same, outputs = flat
    terms = [(at, name) for at, (_, names) in enumerate(atoms) for name in names]
    labels = {term: term for term in terms + [term for pair in same for term in pair] + outputs}
    for one, other in same:
        old, new = sorted([labels[one], labels[other]], key=lambda term: isinstance(term[0], str))
        if isinstance(old[0], str) and old != new:
            return None
        labels = {term: new if label == old else label for term, label in labels.items()}
    numbers = {}
    for term in terms:
        if not isinstance(labels[term][0], str):
            numbers.setdefault(labels[term], ("var", len(numbers)))
    told = {term: numbers.get(label, label) for term, label in labels.items()}
    return (
        tuple((table, tuple((name, told[at, name]) for name in names)) for at, (table, names) in enumerate(atoms)),
        tuple(told[end] for end in outputs),
    )


def holds(one, other, numbers):
    """Whether a tuple of numbers is a map by the words of [74]: for some choice of a term for each variable."""
    if any(one[0][at][0] != other[0][number][0] for at, number in enumerate(numbers)):
        return False
    pairs = list(zip(one[1], other[1]))
    for (_, terms), number in zip(one[0], numbers):
        there = dict(other[0][number][1])
        pairs += [(term, there.get(name, ("own", number, name))) for name, term in terms]
    choices = sorted({pair[1] for pair in pairs}, key=str)
    variables = sorted({pair[0] for pair in pairs if pair[0][0] == "var"})
    for chosen in itertools.product(choices, repeat=len(variables)):
        choice = dict(zip(variables, chosen))
        if all(choice.get(term, term) == wanted for term, wanted in pairs):
            return True
    return False


def all_maps(one, other):
    return [
        numbers for numbers in itertools.product(range(len(other[0])), repeat=len(one[0])) if holds(one, other, numbers)
    ]


def drawn_joins(seed, many=8):
    """Joins over the tables t, u, v with one output, an int."""
    drawing = Drawing(seed)
    catalog = tables()
    sources = [T, T, U, V]
    joins = []
    while len(joins) < many:
        joins += written(catalog, (drawing.part(catalog, sources, ["int"], 3),))
    return catalog, joins[:many]


class Maps(unittest.TestCase):
    def test_of_one_atom(self):
        join = lambda *terms: (((T, terms),), (("a", var(0)) in terms and var(0) or ONE,))
        free, both, const = join(("a", var(0))), join(("a", var(0)), ("b", var(0))), join(("a", var(0)), ("b", TWO))
        self.assertEqual([map_of(free, other) for other in [free, both, const]], [(0,)] * 3)
        self.assertEqual([map_of(both, other) for other in [free, both, const]], [None, (0,), None])
        self.assertEqual([map_of(const, other) for other in [free, both, const]], [None, None, (0,)])

    def test_other_tables(self):
        one, other = (((T, ()),), (ONE,)), (((U, ()),), (ONE,))
        self.assertIsNone(map_of(one, other))
        self.assertIs(is_map(one, other, (0,)), False)
        self.assertEqual(map_of(one, (((U, ()), (T, ()), (T, ())), (ONE,))), (1,))

    def test_outputs_agree(self):
        atoms = ((T, (("a", var(0)), ("b", var(1)))),)
        one, turned = (atoms, (var(0), var(1))), (atoms, (var(1), var(0)))
        self.assertEqual(map_of(one, one), (0,))
        self.assertIsNone(map_of(one, turned))
        self.assertIsNone(map_of((atoms, (ONE,)), (atoms, (TWO,))))
        self.assertIsNone(map_of((atoms, (ONE,)), (atoms, (var(0),))))
        self.assertIsNone(map_of((atoms, (var(0),)), (atoms, (ONE,))))
        self.assertEqual(map_of((atoms, (ONE,)), (atoms, (ONE,))), (0,))
        self.assertIsNone(map_of((atoms, (var(0), var(0))), (atoms, (var(0), var(1)))))

    def test_a_variable_on_a_constant(self):
        one = (((T, (("a", var(0)),)), (U, (("a", var(0)),))), (ONE,))
        self.assertEqual(map_of(one, (((U, (("a", TWO),)), (T, (("a", TWO),))), (ONE,))), (1, 0))
        self.assertIsNone(map_of(one, (((U, (("a", TWO),)), (T, (("a", ONE),))), (ONE,))))

    def test_a_column_that_is_not_named_has_a_term_of_its_own(self):
        named = lambda term: ((T, (("a", term),)),)
        self.assertEqual(map_of((named(var(0)), (ONE,)), (((T, ()),), (ONE,))), (0,))
        self.assertIsNone(map_of((named(TWO), (ONE,)), (((T, ()),), (ONE,))))
        self.assertEqual(map_of((named(var(0)) * 2, (ONE,)), (((T, ()),), (ONE,))), (0, 0))
        self.assertIsNone(map_of((((T, (("a", var(0)), ("b", var(0)))),), (ONE,)), (((T, ()),), (ONE,))))
        self.assertIsNone(map_of((((T, (("a", var(0)),)), (U, (("a", var(0)),))), (ONE,)), (((T, ()), (U, ())), (ONE,))))
        self.assertEqual(map_of((named(var(0)) * 2, (ONE,)), (((T, ()), (T, ())), (ONE,))), (0, 0))
        self.assertIs(is_map((named(var(0)) * 2, (ONE,)), (((T, ()), (T, ())), (ONE,)), (0, 1)), False)
        self.assertIs(is_map((named(var(0)) * 2, (ONE,)), (((T, ()), (T, ())), (ONE,)), (1, 1)), True)

    def test_the_least_map(self):
        one, other = (((T, ()), (T, (("a", var(0)),))), (var(0),)), (((T, ()), (T, (("a", var(0)),)), (T, ())), (var(0),))
        self.assertEqual(all_maps(one, other), [(0, 1), (1, 1), (2, 1)])
        self.assertEqual(map_of(one, other), (0, 1))

    def test_against_all_tuples_of_numbers(self):
        found = 0
        for seed in range(25):
            _, joins = drawn_joins(seed)
            for one, other in itertools.product(joins, repeat=2):
                maps = all_maps(one, other)
                self.assertEqual(map_of(one, other), min(maps, default=None))
                for numbers in itertools.product(range(len(other[0])), repeat=len(one[0])):
                    self.assertIs(is_map(one, other, numbers), numbers in maps)
                found += len(maps)
        self.assertGreater(found, 300)

    def test_values_of_other_sorts(self):
        one = (((T, ()), (T, ())), (ONE,))
        for thing in [(0, 0), (0, 1), (1, 0), (1, 1)]:
            self.assertIs(is_map(one, one, thing), True)
            self.assertIs(is_map(one, one, list(thing)), False)
        for thing in [(0,), (0, 0, 0), (), (0, 2), (-1, 0), (0, -2), (True, 0), (0, False), ("0", 0), (0, None), 0, None,
                      ((0,), 0), (0, 10 ** 40), Odd(), (Odd(), 0)]:
            self.assertIs(is_map(one, one, thing), False)
        for thing in all_sorts():
            self.assertIs(is_map(one, one, thing), False)
            self.assertIs(is_map(one, one, (0, thing)), False)

    def test_six_atoms(self):
        chain = (tuple((T, (("a", var(k)), ("b", var(k + 1)))) for k in range(6)), (var(0),))
        ring = (tuple((T, (("a", var(k)), ("b", var((k + 1) % 6)))) for k in range(6)), (var(0),))
        self.assertEqual(map_of(chain, ring), tuple(range(6)))
        self.assertIsNone(map_of(ring, chain))
        self.assertEqual(map_of(ring, (((T, (("a", var(0)), ("b", var(0)))),), (var(0),))), (0,) * 6)

    def test_atoms_that_are_tried_in_vain_behind_many_others(self):
        free = tuple((T, (("a", var(k)),)) for k in range(4))
        apart = (tuple((T, (("a", var(2 * k)), ("b", var(2 * k + 1)))) for k in range(6)), (ONE,))
        last = ((T, (("a", var(4)), ("b", var(5)))), (T, (("a", var(5)), ("b", var(4)))))
        self.assertIsNone(map_of((free + last, (ONE,)), apart))
        self.assertIsNone(map_of((free + ((T, (("a", ONE),)),) * 2, (ONE,)), apart))
        both = (apart[0][:5] + ((T, (("a", var(20)), ("b", var(20)))),), (ONE,))
        self.assertEqual(map_of((free + last, (ONE,)), both), (0, 0, 0, 0, 5, 5))
        follow = (free[:3] + ((T, (("a", var(0)), ("b", var(1)))),) + last[:1], (var(5),))
        self.assertEqual(map_of(follow, (apart[0], (var(7),))), None)
        self.assertEqual(map_of(follow, (both[0], (var(7),))), (5, 5, 0, 5, 3))


class Within(unittest.TestCase):
    def test_unions_with_no_join(self):
        join = (((T, ()),), (ONE,))
        self.assertEqual(within([], []), ("in", []))
        self.assertEqual(within([], [join]), ("in", []))
        self.assertEqual(within([join], []), ("out", 0))

    def test_the_least_join_and_its_least_map(self):
        some, both = (((T, (("a", ONE),)),), (ONE,)), (((T, ()), (T, (("a", ONE),))), (ONE,))
        self.assertEqual(within([both, some], [some, both, some]), ("in", [(0, (1,)), (0, (0,))]))
        self.assertEqual(within([both, some], [both, some]), ("in", [(0, (0, 1)), (0, (0, 0))]))
        other = (((U, ()),), (ONE,))
        self.assertEqual(within([both, other], [other, some]), ("in", [(1, (1,)), (0, (0,))]))

    def test_out_tells_the_least_that_has_none(self):
        some, free, other = (((T, (("a", ONE),)),), (ONE,)), (((T, ()),), (ONE,)), (((U, ()),), (ONE,))
        self.assertEqual(within([some, free, other], [some]), ("out", 1))
        self.assertEqual(within([some, free, other], [free]), ("out", 2))
        self.assertEqual(within([other, free], [some]), ("out", 0))

    def test_against_all_tuples_and_the_rows_of_frozen_data(self):
        words = {"in": 0, "out": 0}
        for seed in range(100):
            catalog, joins = drawn_joins(seed, 6)
            for one, other in [(joins[:2], joins[2:]), (joins[2:4], joins[:2] + joins[4:]), (joins[:1], joins[1:2])]:
                word, told = within(one, other)
                words[word] += 1
                maps = [[(at, min(all_maps(join, into))) for at, join in enumerate(other) if all_maps(join, into)] for into in one]
                lacking = [at for at, found in enumerate(maps) if not found]
                self.assertEqual((word, told), ("out", lacking[0]) if lacking else ("in", [found[0] for found in maps]))
                for at, into in enumerate(one):
                    data, row = frozen(catalog, into, without=(0, 1, 2, "x", "y", "z"))
                    self.assertIn(row, rows_of_union(catalog, [into], data))
                    self.assertEqual(row in rows_of_union(catalog, other, data), at not in lacking)
        self.assertGreater(min(words.values()), 15)


class Frozen(unittest.TestCase):
    def check(self, catalog, join, without=()):
        data, row = frozen(catalog, join, without=without)
        self.assertIs(are_data(catalog, data), True)
        self.assertEqual(set(data), {table for table, _ in join[0]})
        constants = [term[1] for _, terms in join[0] for _, term in terms if term[0] != "var"]
        constants += [term[1] for term in join[1] if term[0] != "var"]
        rows = self.rows_by_atom(catalog, join, data)
        values = {}
        for at, ((table, terms), cells) in enumerate(zip(join[0], rows)):
            for name, value in cells.items():
                values.setdefault(dict(terms).get(name, (at, name)), []).append(value)
        fresh = []
        for term, given in values.items():
            self.assertEqual(len(set(given)), 1)
            if term[0] in ("int", "text"):
                self.assertEqual(given[0], term[1])
            else:
                fresh.append(given[0])
        self.assertEqual(len(set(fresh)), len(fresh))
        self.assertEqual(set(fresh) & (set(constants) | set(without)), set())
        self.assertEqual(row, tuple(term[1] if term[0] != "var" else values[term][0] for term in join[1]))
        self.assertIn(row, rows_of_union(catalog, [join], data))
        return data

    def rows_by_atom(self, catalog, join, data):
        """The row of each atom as a dict, in the order in which they stand in the data, alike ones once."""
        left = {table: list(data[table]) for table in data}
        seen, rows = {}, []
        for table, terms in join[0]:
            names = columns_of(catalog, table)
            whole = terms if len(terms) == len(names) else (len(rows), terms)
            if (table, whole) not in seen:
                seen[table, whole] = dict(zip(names, left[table].pop(0)))
            rows.append(seen[table, whole])
        self.assertEqual([rest for rest in left.values() if rest], [])
        return rows

    def test_one_row_for_each_atom(self):
        catalog = tables()
        self.assertEqual({table: len(rows) for table, rows in self.check(catalog, (
            ((T, ()), (T, ()), (U, (("a", var(0)),)), (T, (("a", var(0)), ("b", ONE)))), (var(0), ONE),
        )).items()}, {T: 3, U: 1})
        self.check(catalog, (((T, ()),) * 6, (ONE,)))

    def test_rows_that_are_alike_stand_once(self):
        catalog = done(tables(), ("create", "table", "none", ()))
        data = self.check(catalog, (((V, (("a", var(0)),)), (V, (("a", var(0)),)), (V, (("a", ONE),))), (var(0),)))
        self.assertEqual(len(data[V]), 2)
        none = ("table", "app", "none")
        self.assertEqual(frozen(catalog, (((none, ()), (none, ())), (TEXT,))), ({none: [()]}, ("t",)))

    def test_values_that_are_none_of_the_constants_and_none_of_without(self):
        catalog = tables()
        join = (((T, (("a", var(0)), ("b", ONE))), (U, (("c", TEXT),))), (var(0), TWO, ("text", "out")))
        used = []
        for _ in range(20):
            data = self.check(catalog, join, used)
            used += [value for table in data for row in data[table] for value in row]
        self.check(catalog, join, tuple(used))
        self.assertNotIn(2, [value for rows in frozen(catalog, join)[0].values() for row in rows for value in row])
        many = list(range(-500, 500)) + [f"v{k}" for k in range(500)] + [letter * k for letter in "abxv" for k in range(21)]
        self.check(catalog, join, many)

    def test_constants_of_the_outputs_alone(self):
        catalog = tables()
        for k in range(12):
            self.check(catalog, (((V, ()),), (("int", k), ("text", f"v{k}"))))
            self.check(catalog, (((U, ()),), (("int", k), ("text", f"v{k}"))))

    def test_of_drawn_joins(self):
        for seed in range(30):
            catalog, joins = drawn_joins(seed)
            for join in joins:
                self.check(catalog, join)
                self.check(catalog, join, [0, 1, "v0", 5])

    def test_what_is_returned_is_the_callers(self):
        join = (((V, (("a", var(0)),)),), (var(0),))
        before = frozen(tables(), join)
        frozen(tables(), join)[0][V].clear()
        self.assertEqual(frozen(tables(), join), before)


class ExamplesOfTheDocument(unittest.TestCase):
    def test_them(self):
        script = [
            ("create", "schema", "app", ()), ("path", ("old", "app")), ("create", "table", "orders", ()),
            ("create", "column", ("orders", "net"), ("int", None)),
        ]
        sales = run(Catalog(), script + [("create", "column", ("orders", "who"), ("text", None))])
        same = part("o:orders p:orders", [(of("o", "who"), of("p", "who"))], of("o", "net"))
        orders = ("table", "app", "orders")
        both = written(sales, (same,))
        self.assertEqual(both, [
            (((orders, (("net", var(0)), ("who", var(1)))), (orders, (("who", var(1)),))), (var(0),)),
        ])
        one = written(sales, (part("o:orders", [], of("o", "net")),))
        self.assertEqual([map_of(both[0], one[0]), map_of(one[0], both[0]), within(one, both)],
                         [(0, 0), (0,), ("in", [(0, (0, 0))])])
