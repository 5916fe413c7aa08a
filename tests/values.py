"""Values of any kind that are none of what a function asks for."""

DEEP = ()
for _ in range(20):
    DEEP = (DEEP,)

ODD = [
    None, True, False, 0, 1, -1, 3, 10 ** 399, -(10 ** 399), "", "none", "3", "3\n", "lot", "\n" * 3000,
    [], [0], [()], {}, {0: ()}, {(): ()}, {"size": 3}, (None,), (True,), (False,), ("0",), ([],), ({},), ((),),
    (0, "1"), (0, None), (0, [1]), (0, True), (-1,), (10,), (11,), (10 ** 399,), DEEP, [[[[[]]]]],
    (((), ()), ((), ())), ((0,), [1]), [(0,), (1,)], {0: {1: {2: None}}}, tuple([None] * 3000), [0] * 3000,
]
