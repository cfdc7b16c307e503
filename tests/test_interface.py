"""The interface: each name stands in its module, with its arguments by their places."""

import importlib
import inspect
import unittest

from evenstrand.book import Book
from evenstrand.desk import Desk

FUNCTIONS = {
    "wisps": "is_wisp(thing) length_of(wisp) weight_of(wisp) thick_at(wisp,k) head(wisp,k) tail(wisp,k)",
    "strands": "is_strand(thing) running(strand,p) thick(strand,p) by_sorts(strand,p) end_of(strand) "
               "weight_between(strand,a,b)",
    "stretching": "stretches(strand)",
    "bounds": "off(strand,low,high,a,b) first_off(strand,low,high,a,b) thinnest(strand,a,b) thickest(strand,a,b) "
              "lasts(strand,low,now=0)",
    "hanking": "hanks(strand,weight,most)",
    "splicing": "behind(one,other,at) cut_off(strand,p) from_on(strand,p) let_go(strand,number,p)",
    "rows": "is_row(thing) is_schedule(row,thing) laid_out(row,places) is_wide(row,low,high)",
    "drawing": "drawn(row,low,strand=None,now=0) lasting(row,low,strand=None,now=0) drawn_to(row,low,length)",
    "sums": "shows_thin(row,low,place,thing)",
    "mixing": "sort_of(mixture,k) taken(mixture,k) are_mixtures(thing) sort_by(mixtures,k)",
    "blending": "blended(first,second,mixtures)",
    "breaking": "are_breaks(thing) left(moment,breaks) kept_moments(moment,breaks) moment_of(place,moment,breaks)",
    "broken": "with_breaks(row,moments,breaks) drawn_with(row,low,breaks) lasting_with(row,low,breaks) "
              "laid_with(row,low,breaks,length) cost(row,low,breaks,length)",
    "baskets": "is_basket(thing) is_frame(thing) steps_of(basket,frame,state)",
    "levels": "levels_of(basket,frame,length,most)",
    "fewest": "fewest(basket,frame,length,most) strand_of(basket,frame,way)",
    "longest": "longest(basket,frame,most) heights_of(basket,frame,most)",
    "papers": "shows_way(basket,frame,thing) shows_fewest(basket,frame,length,laid,thing) "
              "shows_longest(basket,frame,length,thing)",
    "entries": "is_entry(thing) is_page(thing) counting(entries) breaks_by(entries) names_by(entries) "
               "strand_by(entries) told_at(entries,moment)",
    "showing": "show_wisp(wisp) show_row(row) show_page(page)",
    "reading": "read_wisp(text) read_row(text) read_page(text)",
}
METHODS = {
    Book: "put(page) pages() entries() told(moment) length(moment) end() stretches()",
    Desk: "say(line)",
}


def signed(name, function):
    """A function's name and arguments, as the document writes them."""
    return name + str(inspect.signature(function)).replace(" ", "")


class Interface(unittest.TestCase):
    def test_functions(self):
        for module, listed in FUNCTIONS.items():
            for due in listed.split():
                name = due.split("(")[0]
                function = getattr(importlib.import_module(f"evenstrand.{module}"), name)
                self.assertEqual(signed(name, function), due)
                self.assertEqual(function.__module__, f"evenstrand.{module}")

    def test_methods(self):
        for kind, listed in METHODS.items():
            for due in listed.split():
                name = due.split("(")[0]
                self.assertIn(name, vars(kind))
                self.assertEqual(signed(name, getattr(kind(), name)), due)


if __name__ == "__main__":
    unittest.main()
