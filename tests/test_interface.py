"""The interface: names, parameters, and the files in which they are defined."""

import importlib
import inspect
import unittest

INTERFACE = {
    "towers": "Tower(squares=()) is_tower(value)",
    "numbers": "Number(tower,parts) is_number(value) fraction(n,d=1) fraction_of(number) joined(tower,towards) "
               "placed(number,tower) trimmed(number) plus(one,other) minus(one,other) times(one,other) over(one,other) "
               "negated(number) sign(number) compare(one,other) floor_at(number,d)",
    "squareroots": "root_within(number) root(number) hyp(one,other)",
    "numbertexts": "number_text(number) number_of(text)",
    "plane": "is_point(value) sheet() cross(a,b,c) side(a,b,c) dot(a,b,c,d) square_length(a,b) meet_of(a,b,c,d) "
             "line_circle(a,b,m,s) circle_circle(m,s,n,t) moved(points,turn)",
    "tools": "is_deed(value) is_drawing(value) names_of(deed) tool_of(deed) on_names(deed,table) laid(deed,points)",
    "chests": "is_chest(value) set_of(chest) joint(one,other) no_more(one,other) chests_with(word) least_chests(word) "
              "first_barred(steps,chest) witness(tool)",
    "drawings": "is_sequel(value,names) drawn_from(points,sequel) drawn(steps) chest_of(steps) needed(steps,names) "
                "layable(steps) ordered(steps,names) settled(steps) renamed(steps,table) like(one,other) "
                "same_points(steps) merged(steps)",
    "unfolding": "is_program(value) holds(question,points) unfolded(program,given) ran(program,given) flat(program)",
    "drawtexts": "steps_text(steps) steps_of(text) program_text(program) program_of(text)",
    "readings": "turned(number) mean(number) rest_square(number) product(number) is_reading(tower,value) "
                "real_readings(tower) read_tower(tower,reading) reading_of(number,reading)",
    "sentences": "fits(deed,points,point) tower_of(points) read_points(points,reading) equalities(points) "
                 "first_untrue(steps,points) redrawn(steps,reading)",
    "polynomials": "polynomial(number) least_polynomial(number) degree(number) worth(coefficients,number) maker(tower) "
                   "written_in(number,maker)",
    "rootcounts": "root_count(coefficients,low=None,high=None) place_of(number) card_of(number) trace(number) "
                  "trace_form(number,shift=0) form_signs(form)",
    "trees": "led(number,path) leaf(number,path) real_paths(count) low_paths(count) real_leaves(number) "
             "low_leaves(number) is_real(number) real_paper(number) is_low(number) low_paper(number) "
             "order_paper(one,other) span(number,d=1)",
    "verdicts": "set_of_number(number) set_of_point(point) is_in(point,word) paper_of(point) is_paper(point,value) "
                "sets_of(steps) first_beyond(steps,chest)",
    "downsquares": "downsquares(n) least_with(count)",
    "squarelists": "squares_of(number) is_squares(number,value) total(values) product_squares(values,others) "
                   "quotient_squares(values,number)",
    "reckonings": "is_reckoning(value) kind_of(rows) worked(rows) bad_rows(rows) needless_rows(rows) plain_rows(rows) "
                  "reckoning_text(rows) reckoning_of(text) combined(rows,others,word) filled(rows,others,at) "
                  "first_apart(rows,others)",
    "makings": "made(number) made_root(number) made_anyhow(number) diagonal(values) cleared(rows)",
    "edgework": "parallel_steps(steps,p,a,b,name) upright_steps(steps,p,a,b,name) again_steps(steps,p,name)",
    "edgesums": "sum_steps(steps,a,b,name) difference_steps(steps,a,b,name) product_steps(steps,a,b,name) "
                "quotient_steps(steps,a,b,name) x_steps(steps,p,name) y_steps(steps,p,name) place_steps(steps,a,b,name) "
                "fraction_steps(steps,n,d,name)",
    "deeds": "hyp_steps(steps,a,b,tool,name) root_steps(steps,a,tool,name) worked_steps(rows,chest) "
             "deed_steps(steps,deed,chest,name)",
    "carrying": "reaches(point,chest) drawing_of(point,chest) carried(steps,chest) is_carried(steps,chest,value)",
    "marks": "coordinates(marks) value_of(marks,product) base(marks) size(marks) in_field(marks,number) "
             "as_sum(marks,number) field_paper(marks,number) is_field_paper(marks,number,value) "
             "first_outside(marks,others) needless(marks) enough(marks) first_parting(marks,others)",
    "markings": "started(marks) first_strange(marks,sequel) marking(marks,point) is_marking(marks,point,value)",
    "works": "Work(chest)",
    "journals": "journal_of(work) first_wrong(chest,journal) replayed(chest,journal) shortened(chest,journal) "
                "crossed(chest,journal,at)",
    "desk": "Desk()",
}

WORK_METHODS = ("draw(name,deed) rub(name) rename(name,fresh) outfit(chest) carry(chest) undo() point(name) word(name) "
                "alike() poorest(name) tried(task) copy()")


class InterfaceTests(unittest.TestCase):
    def test_names_and_parameters(self):
        for name, entries in INTERFACE.items():
            module = importlib.import_module("rulerchest." + name)
            for entry in entries.split():
                word = entry.split("(")[0]
                value = getattr(module, word)
                self.assertEqual(value.__module__, "rulerchest." + name)
                self.assertTrue(inspect.isfunction(value) or inspect.isclass(value))
                shown = str(inspect.signature(value)).replace(" ", "")
                self.assertEqual(word + shown, entry)

    def test_attributes_and_methods(self):
        from rulerchest.numbers import Number
        from rulerchest.towers import Tower
        for made, attributes in ((Tower(), ["squares"]), (Number(Tower(), ((1, 1),)), ["tower", "parts"])):
            for attribute in attributes:
                self.assertIn(attribute, vars(made))
            self.assertIn("__eq__", vars(made.__class__))

    def test_methods_of_works_and_desks(self):
        from rulerchest.desk import Desk
        from rulerchest.works import Work
        for made, entries in ((Work, WORK_METHODS), (Desk, "say(line)")):
            for entry in entries.split():
                word = entry.split("(")[0]
                self.assertIn(word, vars(made))
                shown = str(inspect.signature(vars(made)[word])).replace(" ", "").replace("self,", "").replace("self", "")
                self.assertEqual(word + shown, entry)
        for word in ("__len__", "__eq__", "__enter__", "__exit__"):
            self.assertIn(word, vars(Work))
        for word in ("first", "chest", "steps", "log"):
            self.assertTrue(hasattr(Work(()), word))

    def test_the_package_itself_defines_nothing(self):
        import rulerchest
        made = [name for name in vars(rulerchest) if not name.startswith("__")]
        modules = [name for name in made if inspect.ismodule(getattr(rulerchest, name))]
        self.assertEqual(sorted(made), sorted(modules))


if __name__ == "__main__":
    unittest.main()
