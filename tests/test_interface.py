"""The names of the interface: each is defined in its file, with its arguments in their order."""

import importlib
import inspect
import unittest

LISTED = {
    "ratios": "ratio_of(value) ratio_sum(one,other) ratio_less(one,other) ratio_times(one,other) ratio_over(one,other) "
              "ratio_at_most(one,other) ratio_size(value) greatest_ratio(ratios) least_ratio(ratios)",
    "numbers": "Numbers(tops,bottom=1) numbers_of(value,length) shares_of(value,length)",
    "sets": "set_of(places,count) parts_of(count) least_sets(sets)",
    "tables": "Table(rows,*,columns=None)",
    "tabletexts": "table_text(table) table_from(text)",
    "signs": "signs_of(part,count) leading_signs(part,count) signs_from(value,count) part_of(signs) contrary(signs) "
             "made_leading(signs) is_leading(signs) beside(one,other) joined_signs(one,other)",
    "splitting": "odd_rows(table,part) even_rows(table,part) is_split(table,tolls,signs) splits_of(table,tolls,part) "
                 "first_split(table,tolls,part) lowered_tolls(table,tolls,part)",
    "tolls": "tolls_of(value,height) failing_part(table,tolls) serves(table,tolls) least_failing(table,tolls) "
             "loose_rows(tolls)",
    "leasts": "part_choices(table,part) least_tolls(table) least_equal(table)",
    "lones": "is_lone(table,tolls,signs) lone_splits(table,tolls) toll_of_row(table,tolls,row) "
             "part_of_toll(table,tolls,row) lone_worth(table,tolls,row)",
    "roundings": "doubled(shares) broken_places(shares) roundings_of(shares) rounding_from(value,shares) "
                 "miss(table,shares,rounding) odd_part(carry,rounding) halved(carry,rounding,signs) "
                 "is_firm_rounding(table,tolls,shares,rounding) firm_roundings(table,tolls,shares)",
    "solving": "solve(columns,room,gains)",
    "mixes": "Mix(entries) RoundingMix(entries) SignMix(entries)",
    "nearest": "cut_of(count) near_bound(tolls) near_quotient(table,tolls,shares,rounding) "
               "near_rounding(table,tolls,shares) near_on(table,tolls,shares,rows) whole_rows(table,shares)",
    "halving": "depth_of(shares) halves_mix(table,tolls,shares)",
    "meaning": "means_mix(table,tolls,shares) cheap_within(table,tolls,prices,shares)",
    "ranks": "rank_of(rows) kernel_row(table,part) is_independent(table,part)",
    "spreading": "spread(table,shares)",
    "determinants": "determinant(rows)",
    "squareparts": "square_parts(table) greatest_square(table,row=None) squares_with(table,number)",
    "bounds": "toll_product(tolls,rows) single_bound(tolls,rows,row) least_single(tolls,rows) loose_bound(tolls,rows) "
              "square_bound(tolls,rows)",
    "rests": "class_count(table) solved(table,target) split_target(table,target) rest_of(table,tolls,row,target) "
             "close_rest(table,tolls,target)",
    "pivoting": "pivoted(table,row,column) pivot_spots(table,tolls) pivot_all(table,tolls)",
    "firmness": "is_firm(table) unfirm_part(table) firm_lots(table) least_loose(table)",
    "lonesums": "ways_free(table,part) lone_way(table,part) firm_lones(table) lone_pieces(table,signs)",
    "steps": "is_step(table,one,other) difference_pieces(table,shares,one,other) steps_of(table,shares) "
             "walk(table,shares,one,other)",
    "pairs": "pairs_of(table) is_pair(table,one,other)",
    "growing": "goes_in(table,row) grown_lones(table,row) column_goes_in(table,column) rows_that_go_in(table)",
    "lonetolls": "lone_toll(table,row) lone_of_toll(table,row) square_of_toll(table,row) "
                 "toll_gain(table,firm_row,row)",
    "abouts": "about(table,row,shares) half_rounding(table,row,shares) split_sums(table,row,part) "
              "greatest_jump(table,row,part)",
    "pricesteps": "price_step(table,row,prices,shares) step_price(table,row,prices,shares) "
                  "cheap_rounding(table,row,prices,shares)",
    "rowmixes": "row_mix(table,row,shares) step_mix(table,row,shares) least_spread(table,row,shares)",
    "failing": "failing_lones(table,row,toll) fails_at(table,row,toll)",
    "pairtolls": "pair_serves(table,one,other,first,second) second_toll(table,one,first,other) "
                 "above_lones(table,one,first) failing_pair(table,one,other,first,second)",
    "stairs": "stairs_of(table,one,other) least_even_toll(table,one,other)",
    "triangles": "half_both(table,one,other,first,second,shares) is_good(table,one,other,first,second,signs) "
                 "triangle_of(table,one,other,first,second,prices,shares) "
                 "both_mix(table,one,other,first,second,shares) "
                 "cheap_both(table,one,other,first,second,prices,shares)",
    "agreeing": "harm(table,one,other) agree(table,one,other) couple_failing(table,tolls)",
    "examples3": "three_columns() three_halves() nine_table() mix_table()",
    "joining": "at_row(one,i,other,k) at_column(one,j,other,l) blocks_table(*tables) "
               "tolls_at_row(tolls,height,i,other_height,k) joined_lones(one,j,other,l,tolls,other_tolls)",
    "blocks": "blocks_of(table) failing_block(table,tolls) block_loose(table,tolls) is_one_block(table)",
    "rings": "two_a_column(table) two_a_row(table) odd_rings(table) ring_lots(table) ring_tolls(table)",
    "putting": "put_in(one,j,other,k) is_telling(one,j,tolls,other,k)",
    "loosecolumns": "column_sides(table,column,tolls,part,signs) column_failing(table,column,tolls)",
    "squaring": "sum_squares(table,signs) mean_squares(table,mix) balanced(mix)",
    "games": "part_game(table,part) even_of(table) even_part(table) square_mix(table,part,squares) "
             "square_weights(table,part,squares) even_serves(table,squares) even_failing(table,squares)",
    "evenmixes": "even_mix(table,squares,shares) square_bounds(squares,depth)",
    "stretches": "Stretches(pairs) worlds_of(stretches)",
    "worlds": "greatest_toll(table,stretches) serves_all(table,stretches,toll) least_toll_ratio(table,stretches) "
              "world_with(table,stretches,toll) safe_split(table,stretches,toll,part) "
              "greatest_second(table,one,first,stretches)",
    "budgets": "least_price(table,row,prices,shares,budget) price_corners(table,row,prices,shares) "
               "cheapest_within(table,row,prices,shares,budget)",
    "deeds": "deed_of(value) deed_text(deed) deed_from(text)",
    "desks": "Desk(table,tolls,*,name='')",
    "trials": "tried(desk,deeds,question) Trial(desk)",
    "listings": "listing(desk) deeds_listing(desk)",
}
METHODS = {
    "numbers.Numbers": "of_ratios(ratios) common_bottom(ratios) dot(self,other) scaled(self,value) greatest_size(self) "
                       "placed(self,place,value)",
    "tables.Table": "zeros(height,columns) unit(count) chain(count) sums_of(self,numbers) column(self,j) "
                    "lot(self,rows,columns) with_row(self,row,place=None) with_column(self,column,place=None) "
                    "without_row(self,i) without_column(self,j) turned_row(self,i) turned_column(self,j) "
                    "times_row(self,i,t) copied(self,j) exchanged(self,rows,columns)",
    "mixes.Mix": "means(self) mean_at(self,row) mean_square(self,row,middle=(0,1)) even(tuples)",
    "mixes.RoundingMix": "greatest_miss(self,table,shares)",
    "mixes.SignMix": "signed_part(self)",
    "stretches.Stretches": "agrees(self,row) world_count(self) end_world(self,signs) reach(self,signs)",
    "desks.Desk": "do(self,deed) put_row(self,row,place=None,toll=1) put_column(self,column,place=None) "
                  "drop_row(self,i) drop_column(self,j) turn_row(self,i) turn_column(self,j) set_number(self,i,j,value) "
                  "set_toll(self,i,value) set_tolls(self,tolls) back(self) back_to(self,count) copy(self) serving(self) "
                  "failing(self) lones(self) firm(self) loose(self) room_for(self,row) near(self,shares) "
                  "bound(self,rows) blocks(self)",
}
PROPERTIES = {"numbers.Numbers": ["is_whole"], "tables.Table": ["height"], "mixes.Mix": ["size"],
              "desks.Desk": ["table_now", "tolls", "deeds"]}
GENERATORS = {"sets": ["parts_of"], "signs": ["signs_of", "leading_signs"], "roundings": ["roundings_of"],
              "squareparts": ["square_parts", "squares_among"], "stretches": ["worlds_of"]}


def told(name, thing):
    return name + str(inspect.signature(thing)).replace(" ", "")


class InterfaceTest(unittest.TestCase):
    def test_each_thing_is_defined_in_its_file(self):
        for stem, listed in LISTED.items():
            module = importlib.import_module("splitnumbers." + stem)
            for words in listed.split():
                name = words.split("(")[0]
                thing = getattr(module, name)
                self.assertEqual(thing.__module__, module.__name__)
                self.assertEqual(told(name, thing), words)

    def test_each_method_stands_in_its_class(self):
        for path, listed in METHODS.items():
            stem, name = path.split(".")
            kind = getattr(importlib.import_module("splitnumbers." + stem), name)
            for words in listed.split():
                method = words.split("(")[0]
                self.assertIn(method, vars(kind))
                self.assertEqual(told(method, getattr(kind, method)), words)

    def test_properties(self):
        for path, names in PROPERTIES.items():
            stem, name = path.split(".")
            kind = getattr(importlib.import_module("splitnumbers." + stem), name)
            for word in names:
                self.assertIsInstance(vars(kind)[word], property)
                self.assertIsNone(vars(kind)[word].fset)

    def test_class_values(self):
        for stem, name, value in (("mixes", "Mix", "mix"), ("mixes", "RoundingMix", "roundings"), ("mixes", "SignMix", "signs"),
                                  ("trials", "Trial", "trial")):
            self.assertEqual(vars(getattr(importlib.import_module("splitnumbers." + stem), name))["KIND"], value)

    def test_generators(self):
        for stem in LISTED:
            module = importlib.import_module("splitnumbers." + stem)
            found = [name for name, thing in vars(module).items()
                     if inspect.isgeneratorfunction(thing) and thing.__module__ == module.__name__]
            self.assertEqual(sorted(found), sorted(GENERATORS.get(stem, [])))


if __name__ == "__main__":
    unittest.main()
