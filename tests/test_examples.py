"""The examples of the document, as far as they use the calls 0 to 9."""

from tests.calls import CallCase, begin, grow, lines, paint, read, text

PICTURE = "30 20 0\nr 1 0 0 30 10\nr 1 0 15 5 5"


class Examples(CallCase):
    def test_paint_and_grow(self):
        self.check(
            (begin(0, 0, 5, 4, 10), [0]),
            (paint(PICTURE), [0, 4]),
            (text(), "...../...../#..../###.."),
            (grow(1), [0, 4]),
            (text(), "...../#..../###../####."),
        )

    def test_read(self):
        self.check(
            (begin(0, 0, 5, 4, 10), [0]),
            (read(lines("###../#.#../###../.....")), [0]),
            (text(), "###../#.#../###../....."),
            (read(lines("#.#../.#.../#.#../.....")), [0]),
            (text(), "#.#../.#.../#.#../....."),
        )
