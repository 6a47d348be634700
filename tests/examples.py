"""The examples of the document, stage by stage, as it shows them."""

EXAMPLES = r"""
>>> TRIANGLE, SQUARE = ((0, 0), (0, 1), (1, 0)), ((0, 0), (0, 1), (1, 0), (1, 1))
>>> STICK, POINT = ((0, 0), (1, 1)), ((0, 0),)
>>> [primitive((0, -4, 6)), content((0, -4, 6)), dot((1, 2, 3), (3, 0, -1)), determinant(((2, 1), (4, 5))), rank(((1, 2, 3), (2, 4, 6)))]
[(0, 2, -3), 2, 0, 6, 1]
>>> [basis(((2, 1), (4, 5))), kernel(((1, 2, 3), (2, 4, 6))), basis(((0, 0),)), kernel(((0, 0),))]
[((2, 1), (0, 3)), ((1, 1, -1), (0, 3, -2)), (), ((1, 0), (0, 1))]
>>> [is_parts_or_form(((2, 0), (0, 3)), (1, 1), ("parts", (3, 2), 6)), parts_or_form(((1, 2),), (1, 3))[0], is_parts_or_form(((1, 2),), (1, 3), ("form", (-2, 1)))]
[True, 'form', True]
>>> [is_whole_or_test(((2, 0), (0, 3)), (4, 2), ("test", (0, 1), 3)), whole_or_test(((2, 1), (4, 5)), (2, 4)), is_whole_or_test(((1, 2),), (1, 3), ("test", (-2, 1), 0))]
[True, ('whole', (-1, 1)), True]
>>> primitive((0, 0))
raises Refused(('zero',))
>>> FIELD = ((0, 0), (0, 2), (1, 1), (2, 0), (2, 2))
>>> [corners(FIELD), value_at(FIELD, (1, 3)), greatest_at(FIELD, (1, 0)), is_lot(FIELD[::-1]), is_lot(((True, 0),))]
[((0, 0), (0, 2), (2, 0), (2, 2)), 8, ((2, 0), (2, 2)), False, False]
>>> [is_corner_or_weights(FIELD, 2, ("weights", 2, (1, 0, 0, 0, 1))), is_corner_or_weights(FIELD, 0, ("corner", (-1, -1))), is_corner_or_weights(FIELD, 0, ("corner", (-1, 0)))]
[True, True, False]
>>> [corner_or_weights(FIELD, 2)[0], is_inside_or_beyond(FIELD, (1, 2), ("inside", 2, (0, 1, 0, 0, 1))), inside_or_beyond(FIELD, (3, 1))[0], is_inside_or_beyond(FIELD, (3, 1), ("beyond", (1, 0)))]
['weights', True, 'beyond', True]
>>> [alike_or_row(FIELD, corners(FIELD)), is_alike_or_row(FIELD, FIELD[:4], ("row", (1, 1))), is_alike_or_row(FIELD, FIELD[:4], ("row", (-1, -1)))]
[('alike',), True, False]
>>> corner_or_weights(FIELD, 5)
raises InvalidNumber(5)
>>> [summed(STICK, TRIANGLE), joined(STICK, TRIANGLE), scaled(TRIANGLE, 2), moved(STICK, (1, -1)), turned(TRIANGLE)]
[((0, 0), (0, 1), (1, 0), (1, 2), (2, 1)), ((0, 0), (0, 1), (1, 0), (1, 1)), ((0, 0), (0, 2), (2, 0)), ((1, -1), (2, 0)), ((-1, 0), (0, -1), (0, 0))]
>>> [face(TRIANGLE, (1, 1)), face(FIELD, (1, 0)), shadow(FIELD, ((1, 1),)), shadow(STICK, ((1, 0), (0, 1), (1, -1)))]
[((0, 1), (1, 0)), ((2, 0), (2, 2)), ((0,), (4,)), ((0, 0, 0), (1, 1, 0))]
>>> [edges(FIELD), edge_or_crossed(FIELD, 0, 3)[0], is_edge_or_crossed(FIELD, 0, 3, ("crossed", 1, (0, 1, 1, 0))), is_edge_or_crossed(FIELD, 0, 1, ("edge", (-1, 0)))]
[((0, 1), (0, 2), (1, 3), (2, 3)), 'crossed', True, True]
>>> summed(STICK, ((0,), (1,)))
raises InvalidOperation
>>> [volume(TRIANGLE), volume(SQUARE), volume(STICK), volume(((0,), (3,))), own_volume(((0, 0), (2, 2))), own_volume(POINT), own_volume(((0, 0, 0), (1, 0, 1), (1, 1, 0)))]
[1, 2, 0, 3, (1, 2), (0, 1), (2, 1)]
>>> [is_parting(SQUARE, ("parted", ((0, 1, 2), (1, 2, 3)))), is_parting(SQUARE, ("parted", ((0, 1, 2), (0, 1, 3), (0, 2, 3), (1, 2, 3)))), is_parting(STICK, ("flat", (2, -2)))]
[True, False, True]
>>> [parting(TRIANGLE), volume(((0, 0, 0, 0), (0, 0, 0, 1), (0, 0, 1, 0), (0, 1, 0, 0), (1, 0, 0, 0)))]
[('parted', ((0, 1, 2),)), 1]
>>> LAMP = Network(2, (((1, -1), (0, 1)), ((1, 0, -1, 0),)), (0, 0, 1, 2, -1))
>>> [str(LAMP), LAMP.depth, LAMP.units[2], value_of(LAMP, (3, 1)), unit_values(LAMP, (3, 1)), pattern_at(LAMP, (3, 1)), form_at(LAMP, (3, 1))]
['network of 2 inputs, layers 2 1', 2, (1, 0, -1, 0), 3, (2, 1, 1), (True, True, True), (1, 0)]
>>> GREATER = greater(form_network((1, 0)), form_network((0, 1)))
>>> [GREATER.layers, GREATER.last, value_of(GREATER, (5, 8)), str(ramped(GREATER)), added(GREATER, GREATER).layers, multiplied(GREATER, -2).last]
[(((1, -1),),), (0, 1, 1), 8, 'network of 2 inputs, layers 1 1', (((1, -1), (1, -1)),), (0, -2, -2)]
>>> trimmed(Network(1, (((1,), (2,)), ((0, 0, 1),)), (1, 3, 0, 0))) == Network(1, (((1,),),), (1, 3))
True
>>> Network(2, (((1,),),), (0, 0, 1))
raises InvalidNetwork
>>> [reading_of(form_network((2, -1))), reading_of(GREATER), value_at_reading(reading_of(LAMP), (3, 1))]
[(((2, 0),), ((0, 1),)), (((0, 2), (1, 1)), ((0, 1),)), 3]
>>> [is_reading_of(GREATER, (((1, 1), (2, 0)), ((1, 0),))), is_reading_of(GREATER, (((0, 1), (1, 0)), ((0, 1),))), ramped_reading(reading_of_form((1, 0)))]
[True, False, (((0, 0), (1, 0)), ((0, 0),))]
>>> [greater_reading(reading_of_form((1, 0)), reading_of_form((0, 1))), multiplied_reading((TRIANGLE, POINT), -2), added_reading((TRIANGLE, POINT), (POINT, STICK))]
[(((0, 1), (1, 0)), ((0, 0),)), (((0, 0),), ((0, 0), (0, 2), (2, 0))), (((0, 0), (0, 1), (1, 0)), ((0, 0), (1, 1)))]
>>> [network_of((TRIANGLE, POINT)).depth, is_network_of((STICK, POINT), GREATER), do_agree((SQUARE, STICK), (SQUARE, STICK))]
[2, False, True]
"""
