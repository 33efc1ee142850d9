"""Points 8 and 9: text and read."""

from tests.calls import CallCase, begin, coded, lines, read, set_cell, text


class GridTexts(CallCase):
    def check_taken(self, words):
        rows = words.split("/")
        self.check((begin(5, -5, len(rows[0]), len(rows), 2), [0]), (read(lines(words)), [0]), (text(), words))

    def check_refused(self, words):
        """The text is refused on a grid of the width 3 and the height 2, which stays as it was."""
        for before in (".../...", "#.#/.##", "###/###"):
            self.check((begin(0, 0, 3, 2, 1), [0]), (read(lines(before)), [0]), (read(words), [-5]), (text(), before))

    def test_all_texts_of_a_small_grid(self):
        for number in range(64):
            signs = "".join(["#" if number >> place & 1 else "." for place in range(6)])
            self.check_taken(signs[:3] + "/" + signs[3:])
            self.check_taken("/".join([signs[:2], signs[2:4], signs[4:]]))

    def test_one_cell_one_row_one_column(self):
        for words in (".", "#", "#..#", "#/././#", "#" * 40, "/".join(".#" * 20)):
            self.check_taken(words)

    def test_the_greatest_grid(self):
        self.check_taken("/".join(["." * j + "#" * (40 - j) for j in range(40)]))

    def test_the_highest_row_stands_first_and_the_left_cell_first(self):
        self.check((begin(0, 0, 3, 2, 1), [0]), (set_cell(0, 0, 1), [0]), (text(), ".../#.."),
                   (set_cell(2, 1, 1), [0]), (text(), "..#/#.."))

    def test_the_bytes_of_a_text(self):
        self.check((begin(0, 0, 2, 2, 1), [0]), (set_cell(1, 0, 1), [0]), (text(), [0, 46, 46, 10, 46, 35]))

    def test_read_takes_the_place_of_what_was_there(self):
        self.check((begin(0, 0, 3, 2, 1), [0]), (read(lines("###/#.#")), [0]), (read(lines("..#/.#.")), [0]),
                   (text(), "..#/.#."), (read(lines(".../...")), [0]), (text(), ".../..."))

    def test_wrong_widths(self):
        for words in ("##/##", "####/####", "###/##", "##/###", "###/####", "####/###", "/", "###/", "/###", "######"):
            self.check_refused(lines(words))

    def test_wrong_heights(self):
        for words in ("###", "###/###/###", "..././../...", "##/##/##"):
            self.check_refused(lines(words))

    def test_other_bytes(self):
        right = coded(lines("#.#/.#."))
        for place in range(len(right)):
            for byte in range(256):
                if byte not in ((10,) if place == 3 else (35, 46)):
                    wrong = right[:place] + [byte] + right[place + 1:]
                    self.check((begin(0, 0, 3, 2, 1), [0]), (read(wrong), [-5]), (text(), ".../..."))

    def test_byte_10_at_an_end(self):
        for words in ("###/###/", "/###/###", "###//###", "/###/###/", "/"):
            self.check_refused(lines(words))

    def test_none_at_all(self):
        self.check_refused("")
        self.check((read(""), [-5]), (text(), "."))

    def test_blanks_and_other_line_ends(self):
        for words in ("### ###", "###\r\n###", "###\r###", "###/###", "### \n###", " ###\n###", "###\n### "):
            self.check_refused(words)

    def test_a_long_text(self):
        self.check_refused("#" * 16800)
        self.check_refused("\n" * 16800)

    def test_a_text_of_another_grid(self):
        self.check((begin(0, 0, 3, 2, 1), [0]), (read(lines("##/##/##")), [-5]), (begin(0, 0, 2, 3, 1), [0]),
                   (read(lines("###/###")), [-5]), (read(lines("##/##/##")), [0]), (text(), "##/##/##"))

    def test_text_changes_nothing(self):
        self.check((begin(0, 0, 3, 2, 1), [0]), (read(lines("#.#/.##")), [0]), (text(), "#.#/.##"), (text(), "#.#/.##"))

    def test_cells_stay_apart_after_a_read(self):
        self.check((begin(0, 0, 2, 3, 1), [0]), (read(lines("../../..")), [0]), (set_cell(0, 1, 1), [0]),
                   (text(), "../#./.."))
