"""The examples of the document, stage by stage, as it shows them."""

EXAMPLES = r"""
>>> TRIANGLE, SQUARE = ((0, 0), (0, 1), (1, 0)), ((0, 0), (0, 1), (1, 0), (1, 1))
>>> STICK, POINT = ((0, 0), (1, 1)), ((0, 0),)
>>> [primitive((0, -4, 6)), content((0, -4, 6)), dot((1, 2, 3), (3, 0, -1)), determinant(((2, 1), (4, 5))), rank(((1, 2, 3), (2, 4, 6)))]
[(0, 2, -3), 2, 0, 6, 1]
>>> [basis(((2, 1), (4, 5))), kernel(((1, 2, 3), (2, 4, 6))), basis(((0, 0),)), kernel(((0, 0),))]
[((2, 1), (0, 3)), ((1, 1, -1), (0, 3, -2)), (), ((1, 0), (0, 1))]
>>> [is_parts_or_form(((2, 0), (0, 3)), (1, 1), ("parts", (3, 2), 6)), parts_or_form(((1, 2),), (1, 3))[0], is_parts_or_form(((1, 2),), (1, 3), ("form", (-2, 1)))]
[True, 'form', True]
>>> [is_whole_or_test(((2, 0), (0, 3)), (4, 2), ("test", (0, 1), 3)), whole_or_test(((2, 1), (4, 5)), (2, 4)), is_whole_or_test(((1, 2),), (1, 3), ("test", (-2, 1), 0))]
[True, ('whole', (-1, 1)), True]
>>> primitive((0, 0))
raises Refused(('zero',))
>>> FIELD = ((0, 0), (0, 2), (1, 1), (2, 0), (2, 2))
>>> [corners(FIELD), value_at(FIELD, (1, 3)), greatest_at(FIELD, (1, 0)), is_lot(FIELD[::-1]), is_lot(((True, 0),))]
[((0, 0), (0, 2), (2, 0), (2, 2)), 8, ((2, 0), (2, 2)), False, False]
>>> [is_corner_or_weights(FIELD, 2, ("weights", 2, (1, 0, 0, 0, 1))), is_corner_or_weights(FIELD, 0, ("corner", (-1, -1))), is_corner_or_weights(FIELD, 0, ("corner", (-1, 0)))]
[True, True, False]
>>> [corner_or_weights(FIELD, 2)[0], is_inside_or_beyond(FIELD, (1, 2), ("inside", 2, (0, 1, 0, 0, 1))), inside_or_beyond(FIELD, (3, 1))[0], is_inside_or_beyond(FIELD, (3, 1), ("beyond", (1, 0)))]
['weights', True, 'beyond', True]
>>> [alike_or_row(FIELD, corners(FIELD)), is_alike_or_row(FIELD, FIELD[:4], ("row", (1, 1))), is_alike_or_row(FIELD, FIELD[:4], ("row", (-1, -1)))]
[('alike',), True, False]
>>> corner_or_weights(FIELD, 5)
raises InvalidNumber(5)
>>> [summed(STICK, TRIANGLE), joined(STICK, TRIANGLE), scaled(TRIANGLE, 2), moved(STICK, (1, -1)), turned(TRIANGLE)]
[((0, 0), (0, 1), (1, 0), (1, 2), (2, 1)), ((0, 0), (0, 1), (1, 0), (1, 1)), ((0, 0), (0, 2), (2, 0)), ((1, -1), (2, 0)), ((-1, 0), (0, -1), (0, 0))]
>>> [face(TRIANGLE, (1, 1)), face(FIELD, (1, 0)), shadow(FIELD, ((1, 1),)), shadow(STICK, ((1, 0), (0, 1), (1, -1)))]
[((0, 1), (1, 0)), ((2, 0), (2, 2)), ((0,), (4,)), ((0, 0, 0), (1, 1, 0))]
>>> [edges(FIELD), edge_or_crossed(FIELD, 0, 3)[0], is_edge_or_crossed(FIELD, 0, 3, ("crossed", 1, (0, 1, 1, 0))), is_edge_or_crossed(FIELD, 0, 1, ("edge", (-1, 0)))]
[((0, 1), (0, 2), (1, 3), (2, 3)), 'crossed', True, True]
>>> summed(STICK, ((0,), (1,)))
raises InvalidOperation
>>> [volume(TRIANGLE), volume(SQUARE), volume(STICK), volume(((0,), (3,))), own_volume(((0, 0), (2, 2))), own_volume(POINT), own_volume(((0, 0, 0), (1, 0, 1), (1, 1, 0)))]
[1, 2, 0, 3, (1, 2), (0, 1), (2, 1)]
>>> [is_parting(SQUARE, ("parted", ((0, 1, 2), (1, 2, 3)))), is_parting(SQUARE, ("parted", ((0, 1, 2), (0, 1, 3), (0, 2, 3), (1, 2, 3)))), is_parting(STICK, ("flat", (2, -2)))]
[True, False, True]
>>> [parting(TRIANGLE), volume(((0, 0, 0, 0), (0, 0, 0, 1), (0, 0, 1, 0), (0, 1, 0, 0), (1, 0, 0, 0)))]
[('parted', ((0, 1, 2),)), 1]
>>> LAMP = Network(2, (((1, -1), (0, 1)), ((1, 0, -1, 0),)), (0, 0, 1, 2, -1))
>>> [str(LAMP), LAMP.depth, LAMP.units[2], value_of(LAMP, (3, 1)), unit_values(LAMP, (3, 1)), pattern_at(LAMP, (3, 1)), form_at(LAMP, (3, 1))]
['network of 2 inputs, layers 2 1', 2, (1, 0, -1, 0), 3, (2, 1, 1), (True, True, True), (1, 0)]
>>> GREATER = greater(form_network((1, 0)), form_network((0, 1)))
>>> [GREATER.layers, GREATER.last, value_of(GREATER, (5, 8)), str(ramped(GREATER)), added(GREATER, GREATER).layers, multiplied(GREATER, -2).last]
[(((1, -1),),), (0, 1, 1), 8, 'network of 2 inputs, layers 1 1', (((1, -1), (1, -1)),), (0, -2, -2)]
>>> trimmed(Network(1, (((1,), (2,)), ((0, 0, 1),)), (1, 3, 0, 0))) == Network(1, (((1,),),), (1, 3))
True
>>> Network(2, (((1,),),), (0, 0, 1))
raises InvalidNetwork
>>> [reading_of(form_network((2, -1))), reading_of(GREATER), value_at_reading(reading_of(LAMP), (3, 1))]
[(((2, 0),), ((0, 1),)), (((0, 2), (1, 1)), ((0, 1),)), 3]
>>> [is_reading_of(GREATER, (((1, 1), (2, 0)), ((1, 0),))), is_reading_of(GREATER, (((0, 1), (1, 0)), ((0, 1),))), ramped_reading(reading_of_form((1, 0)))]
[True, False, (((0, 0), (1, 0)), ((0, 0),))]
>>> [greater_reading(reading_of_form((1, 0)), reading_of_form((0, 1))), multiplied_reading((TRIANGLE, POINT), -2), added_reading((TRIANGLE, POINT), (POINT, STICK))]
[(((0, 1), (1, 0)), ((0, 0),)), (((0, 0),), ((0, 0), (0, 2), (2, 0))), (((0, 0), (0, 1), (1, 0)), ((0, 0), (1, 1)))]
>>> [network_of((TRIANGLE, POINT)).depth, is_network_of((STICK, POINT), GREATER), do_agree((SQUARE, STICK), (SQUARE, STICK))]
[2, False, True]
>>> ABS, TWICE = Network(1, (((1,), (-1,)),), (0, 1, 1)), Network(1, (((2,),),), (-1, 1))
>>> [alike_or_point(ABS, TWICE), alike_or_point(ABS, Network(1, (((1,),),), (0, 1)))[0], is_alike_or_point(ABS, Network(1, (((1,),),), (0, 1)), ("point", (-3,)))]
[('alike',), 'point', True]
>>> STEP = Network(2, (((1, -1),),), (0, 1, 1))
>>> [greatest_or_rows(STEP), greatest_or_rows(Network(2, (((1, -1),),), (0, 1, -1)))[0], straight_or_rows(Network(1, (((1,), (-1,)),), (0, 1, -1)))]
[('greatest', ((0, 1), (1, 0))), 'rows', ('straight', (1,))]
>>> [is_greatest_or_rows(Network(2, (((1, -1),),), (0, 1, -1)), ("rows", (1, 0), (-1, 0))), alike_along(STEP, Network(2, (), (1, 0)), ((1, 1),)), is_alike_along(STEP, Network(2, (), (1, 0)), ((1, 2),), ("numbers", (1,)))]
[True, ('alike',), True]
>>> needless(Network(1, (((1,), (-1,), (1,)),), (0, 1, 0, 2)))
((0, 1),)
>>> GROWN = ("join", ("sum", (("join", ("point", (0, 0)), ("point", (1, 0))), ("point", (0, 0)))), ("point", (0, 1)))
>>> [level_of(GROWN), grown(GROWN), is_growth(("sum", ())), is_growth(("join", ("point", (0,)), ("point", (1, 0)))), grown(("times", 3, GROWN))]
[2, ((0, 0), (0, 1), (1, 0)), False, False, ((0, 0), (0, 3), (3, 0))]
>>> growths_of(Network(2, (((1, -2),),), (0, 1, 3)))
(('sum', (('point', (0, 1)), ('times', 3, ('join', ('sum', (('point', (1, 0)), ('times', 2, ('point', (0, 0))))), ('sum', (('point', (0, 0)), ('times', 2, ('point', (0, 1))))))))), ('sum', (('point', (0, 0)), ('times', 3, ('sum', (('point', (0, 0)), ('times', 2, ('point', (0, 1)))))))))
>>> [parity((TRIANGLE, POINT)), parity((((0, 0), (0, 1), (1, 0), (1, 1)), POINT)), barred((TRIANGLE, POINT)), barred((((0, 0), (2, 1)), POINT)), barred((((0,), (3,)), ((0,),)))]
[1, 0, 1, None, 0]
>>> parity((((0, 0, 0), (1, 0, 0)), ((0, 0, 0),)))
raises InvalidOperation
>>> [least_layers(many) for many in (1, 2, 3, 4, 5, 6)]
[0, 1, 2, 2, 3, 3]
>>> [does_tell_greatest(greatest_network(5)), greatest_network(5).depth, does_tell_greatest(Network(2, (((-1, 1),),), (1, 0, 1)))]
[True, 3, True]
>>> [greatest_or_bar(3, 1)[0], greatest_or_bar(4, 2)[0], is_greatest_or_bar(3, 1, ("barred", ((0, 0), (1, 0), (0, 1)))), is_greatest_or_bar(3, 1, ("barred", ((0, 0), (1, 0), (0, 2))))]
['barred', 'network', True, False]
>>> THREE = round_of((TRIANGLE, POINT))
>>> [THREE, round_of((STICK, POINT)), value_of_round(THREE, (-2, 5)), form_behind(THREE, (1, 1)), form_behind(THREE, (0, -1))]
[((1, 0), (((1, 1), 1), ((-1, 0), 1), ((0, -1), 1))), ((1, 1), (((-1, 1), 1), ((1, -1), 1))), 5, (0, 1), (1, 0)]
>>> [put_between((1, 0), (2, 5)), smooth_fan(((-1, -1),)), is_smooth(((1, 0), (0, 1), (-1, -1))), is_smooth(((1, 0), (0, 1), (-1, 0)))]
[((1, 1), (1, 2)), ((1, 0), (0, 1), (-1, 0), (-1, -1), (0, -1)), True, False]
>>> AXES = ((1, 0), (0, 1), (-1, 0), (0, -1))
>>> [values_on(THREE, AXES), round_by_values(AXES, (1, 1, 0, 0)), is_round(((0, 0), (((1, 0), 2), ((-1, 0), 1))))]
[(1, 1, 0, 0), ((1, 1), (((1, 0), 1), ((0, 1), 1), ((-1, 0), 1), ((0, -1), 1))), False]
>>> put_between((1, 0), (1000, 1))
()
>>> put_between((1, 0), (1, 1000))
raises TooMany(64)
>>> PEAK, FLAT = (TRIANGLE, POINT), (((0, 0), (1, 0)), ((0, 0), (0, 1)))
>>> [least_depth(PEAK), least_depth(FLAT), least_depth((SQUARE, POINT)), least_depth((((2, 3),), POINT)), unit_counts(PEAK), unit_counts((SQUARE, POINT))]
[2, 1, 1, 0, (1, 1), (3, 2)]
>>> [cut_up(SQUARE), cut_up(((0, 0), (1, 1), (2, 2))), depth_paper(FLAT), depth_paper((((2, 3),), POINT))]
[((((0, 0), (1, 0), (1, 1)), ((0, 0), (0, 1), (1, 1))), (((0, 0), (1, 1)),)), ((((0, 0), (2, 2)),), ()), ('planes', (0, 0), (((0, 1), -1), ((1, 0), 1))), ('form', (2, 3))]
>>> [is_depth_paper(PEAK, ("unlike", (1, 1), 1, 0)), is_depth_paper(PEAK, ("unlike", (1, 0), 0, 1)), is_depth_paper(PEAK, ("unlike", (0, 1), 1, 0)), network_for(PEAK).depth]
[True, True, False, 2]
>>> cut_up(((0,), (1,)))
raises InvalidOperation
>>> SLANT, ALSO = (((0, 0), (1, 0), (1, 1)), ((0, 0), (1, 1), (2, 1))), (SQUARE, ((0, 0), (0, 1), (2, 1)))
>>> [border(SLANT[0]), border(STICK), border(POINT), rest(ALSO) == rest(SLANT)]
[{(-1, -1): 1, (0, 1): 1, (1, 0): 1}, {(-1, -1): 1, (1, 1): 1}, {}, True]
>>> [least_reading(ALSO) == SLANT, is_least(SLANT), is_least(ALSO), least_reading((SQUARE, SQUARE)), least_reading((STICK, ((0, 0), (2, 2))))]
[True, True, False, (((0, 0),), ((0, 0),)), (((0, 0),), ((0, 0), (1, 1)))]
>>> [taken_off(ALSO), taken_off(SLANT), is_least_within(ALSO, (0, 0)), is_least_within(ALSO, (0, 1))]
[(((0, 0), (0, 1), (1, 1)), ((0, 0), (1, 1)), (0, 0)), (((0, 0), (1, 1)), ((0, 0), (1, 1)), (0, 0)), True, False]
>>> [row_between(ALSO, SLANT), row_between(ALSO, (SQUARE, POINT)), lot_of({(0, -1): 2, (0, 1): 2}), lot_of(border(TRIANGLE)) == TRIANGLE]
[(0, 0), None, ((0, 0), (0, 2)), True]
>>> border(((1, 2, 3),))
raises InvalidOperation
>>> HEXAGON, SOLID = ((0, 0), (0, 1), (1, 0), (1, 2), (2, 1), (2, 2)), ((0, 0, 0), (0, 0, 1), (0, 1, 0), (1, 0, 0))
>>> [made_by((0, 0), (((0, 1), 1), ((1, 0), 1), ((1, 1), 1))) == HEXAGON, sticks_or_plate(HEXAGON)]
[True, ('sticks', (0, 0), (((0, 1), 1), ((1, 0), 1), ((1, 1), 1)))]
>>> [sticks_or_plate(TRIANGLE), is_sticks_or_plate(SOLID, ("plate", (0, 0, -1))), is_sticks_or_plate(SOLID, ("plate", (1, 1, 1))), is_sticks_or_plate(SOLID, ("plate", (1, 0, 0)))]
[('plate', (0, 0)), True, True, False]
>>> [plate_at(SOLID, (0, 0, -1)), plate_at(SOLID, (1, 1, 0)), plate_at(STICK, (0, 0)), is_symmetric(HEXAGON), is_symmetric(TRIANGLE)]
[((0, 0, 0), (0, 1, 0), (1, 0, 0)), None, None, True, False]
>>> PRISM = ((0, 0, 0), (0, 0, 2), (0, 1, 0), (0, 1, 2), (1, 0, 0), (1, 0, 2))
>>> [bared(PRISM), most_stick(PRISM, (0, 0, 1)), most_stick(PRISM, (0, 1, 0)), bared(((2, 2), (5, 8)))]
[((((0, 0, 1), 2),), ((0, 0, 0), (0, 1, 0), (1, 0, 0))), 2, 0, ((((1, 2), 3),), ((2, 2),))]
>>> most_stick(PRISM, (0, 0, 2))
raises InvalidOperation
>>> [bends((SQUARE, POINT)), bends((TRIANGLE, POINT)), bends((TRIANGLE, TRIANGLE))]
[(((0, 1), 1, 1), ((1, 0), 1, 1)), (((0, 1), 0, 1), ((1, -1), 0, 1), ((1, 0), 0, 1)), ()]
>>> [is_place((TRIANGLE, POINT), ((1, 0), (0, -1))), bend_at((TRIANGLE, POINT), ((1, 0), (0, -1))), bend_at((TRIANGLE, POINT), ((1, 0), (0, 1))), is_place((TRIANGLE, POINT), ((1, 0), (0, 0)))]
[True, 1, 0, False]
>>> [layer_or_places((SQUARE, POINT))[0], least_units((SQUARE, POINT)), is_layer_or_places((TRIANGLE, POINT), ("places", ((1, 0), (0, -1)), ((1, 0), (0, 1)))), layer_or_places((STICK, STICK))[1].depth]
['layer', 2, True, 0]
>>> bend_at((TRIANGLE, POINT), ((1, 0), (0, 0)))
raises InvalidOperation
>>> FAN = ((1, 0), (0, 1), (1, 1))
>>> [cells(FAN), count_cells(FAN), most_cells(3, 2), general_or_lot(FAN), cell_or_weights(FAN, (1, 1, -1))[0]]
[((-1, -1, -1), (-1, 1, -1), (-1, 1, 1), (1, -1, -1), (1, -1, 1), (1, 1, 1)), 6, 6, ('general',), 'weights']
>>> [is_cell_or_weights(FAN, (1, -1, 1), ("cell", (2, -1))), is_cell_or_weights(FAN, (1, 1, -1), ("weights", (1, 1, 1))), corner_of(FAN, (1, -1, 1)), cell_at(FAN, (-3, 1)), cell_at(FAN, (1, -1)), walls(FAN, (1, 1, 1))]
[True, True, (2, 1), (-1, 1, -1), None, ((0,), (1,))]
>>> [count_cells(((1, 0), (2, 0), (0, 1))), general_or_lot(((1, 0), (-2, 0), (0, 1))), most_cells(12, 4), walls(((1, 0), (-2, 0), (0, 1)), (1, -1, 1))]
[4, ('lot', (0, 1)), 464, ((0, 1), (2,))]
>>> [len(way_between(FAN, (1, 1, 1), (-1, -1, -1))), is_way(FAN, (1, 1, 1), (1, -1, -1), ((1, 1, 1), (1, -1, 1), (1, -1, -1)))]
[4, True]
>>> walls(FAN, (1, 1, -1))
raises Refused(('cell',))
>>> HALVES = ((1, 0), (0, 1), (0, 1))
>>> [led_row((2, 3, 5), HALVES), led_lot(((0, 0, 0), (0, 0, 1), (0, 1, 0), (1, 0, 0)), HALVES), both_puts(HALVES, ((1,), (-1,)))]
[(2, 8), ((0, 0), (0, 1), (1, 0)), ((1,), (-1,), (-1,))]
>>> FOURTH = (((0, 0, 0), (0, 0, 1), (0, 1, 0), (1, 0, 0)), ((0, 0, 0),))
>>> [is_barring(FOURTH, 1, HALVES), is_barring(FOURTH, 1, ((1,), (0,), (0,))), barring_choice(FOURTH, 0), barring_choice((SQUARE, POINT), 1), barring_choice(FOURTH, 2)]
[True, False, ((-1,), (-1,), (-1,)), None, None]
>>> [led_lot(SQUARE, ((2, 1), (0, 1))), three_puts((TRIANGLE, POINT), ((1, 0), (0, 1), (0, -1)))]
[((0, 0), (0, 1), (2, 1), (2, 2)), ((0, 0, 1), (1, -1, 0))]
>>> led_row((1, 2), HALVES)
raises InvalidOperation
>>> [sign_or_row(ABS, ())[0], sign_or_row(STEP, ())[0], sign_or_row(STEP, ((1, 1),))[0], is_sign_or_row(STEP, (), ("below", (-1, -2)))]
['sums', 'below', 'sums', True]
>>> [unit_kind(STEP, 0, 0, ((1, -1),)), unit_kind(STEP, 0, 0, ((-1, 0), (0, 1))), unit_kind(STEP, 0, 0, ()), is_mixed(STEP, 0, 0, (), ((1, 0), (0, 1)))]
['open', 'shut', 'mixed', True]
>>> [form_or_unit(STEP, ((1, -1),)), form_or_unit(STEP, ())[:3], above_or_row(STEP, Network(2, (), (1, 0)), ()), is_in_cone(((1, -1),), (2, 2))]
[('form', (1, 0)), ('unit', 0, 0), ('above',), True]
>>> HOUSE = ((0, 0), (0, 2), (1, 3), (2, 0), (2, 2))
>>> [upper(HOUSE), upper_or_under(HOUSE, 0)[0], is_upper_or_under(HOUSE, 0, ("under", 1, (0, 1, 0, 0, 0))), is_upper_or_under(HOUSE, 2, ("upper", (0, 1)))]
[((0, 2), (1, 3), (2, 2)), 'under', True, True]
>>> [value_at_place((HOUSE, POINT), (1,), 2), agree_or_place((HOUSE, POINT), (HOUSE[1:3] + HOUSE[4:], POINT)), agree_or_place((HOUSE, POINT), (SQUARE, POINT))[0]]
[(7, 2), ('agree',), 'place']
>>> is_agree_or_place((HOUSE, POINT), (SQUARE, POINT), ("place", (0,), 1))
True
>>> [mixed((TRIANGLE, SQUARE)), mixed_row(TRIANGLE, SQUARE), mixed((STICK, STICK)), stick_volume(((1, 0), (0, 1), (1, 1))), mixed_with_stick((TRIANGLE,), (2, 2))]
[2, (2, 2, 1), 0, 6, 4]
>>> [is_pairs_or_low((TRIANGLE, STICK), ("pairs", ((0, 1), (0, 1)))), is_pairs_or_low((STICK, STICK), ("low", (0, 1))), pairs_or_low((POINT, SQUARE))]
[True, True, ('low', (0,))]
>>> [lot_text(STICK), reading_text((STICK, POINT)), read_lot("lot\n  -3 0\n  2 7\nend\n")]
['lot\n  0 0\n  1 1\nend\n', 'reading\nabove\n  0 0\n  1 1\nbelow\n  0 0\nend\n', ((-3, 0), (2, 7))]
>>> RAMP = "network 2\nlayer\n  1 -1\nlast\n  0 1 1\nend\n"
>>> [read_network(RAMP) == Network(2, (((1, -1),),), (0, 1, 1)), network_text(read_network(RAMP)) == RAMP]
[True, True]
>>> read_lot("lot\n  0 0\n  0 0\nend\n")
raises ParseError(2)
>>> read_network("network 2\nlayer\nlast\n")
raises ParseError(2)
>>> bench = Bench()
>>> bench.put("one", Network(2, (((1, -1),),), (0, 1, 1)))
>>> bench.put("two", Network(2, (((-1, 1),),), (1, 0, 1)))
>>> [bench.ask("one", "two"), bench.known("two", "one"), str(bench), bench.names, "one" in bench]
[('alike',), None, 'bench of 2 networks, 2 edits', ('one', 'two'), True]
>>> bench.turn("one", 0, 0, (2, -2))
>>> [bench.known("one", "two"), bench.ask("one", "two")[0]]
[None, 'point']
>>> bench.undo()
>>> [bench.known("one", "two"), bench.network_of("one").layers, len(bench)]
[('alike',), (((1, -1),),), 2]
>>> bench.network_of("three")
raises UnknownName('three')
>>> [takes(("corner", SQUARE, 3), (1, 1)), takes(("within", ((0, 0), (1, 1), (2, 2)), 1), (2, (1, 0, 1))), takes(("full", TRIANGLE), ((0, 1, 2),)), takes(("flat", STICK), (1, -1))]
[True, True, True, True]
>>> [takes(("alike", ((0,), (1,), (2,)), ((0,), (2,))), (((1, (1, 0)), (2, (1, 1)), (1, (0, 1))), ((1, (1, 0, 0)), (1, (0, 0, 1))))), answered(("alike", SQUARE, TRIANGLE))[0][0]]
[True, 'unlike']
>>> [opposite(("odd", (TRIANGLE, POINT)))[0], takes(("odd", (TRIANGLE, POINT)), (("parted", ((0, 1, 2),)), ("flat", (1, 0)))), takes(("bent", (STICK, POINT)), ((1, 0), (-1, 0))), takes(("straight", (STICK, STICK)), ((0, 0), (((1, (1, 0)), (1, (0, 1))), ((1, (1, 0)), (1, (0, 1))))))]
['even', True, True, True]
>>> [answered(("single", (TRIANGLE, POINT)))[0][0], takes(("several", (TRIANGLE, POINT)), (((1, 0), (0, -1)), ((1, 0), (0, 1)))), takes(("whole", ((2, 1), (4, 5)), (2, 4)), (-1, 1)), takes(("broken", ((2, 0), (0, 3)), (4, 2)), ((0, 1), 3))]
['several', True, True, True]
>>> opposite(("corner", SQUARE, 4))
raises InvalidClaim
"""
