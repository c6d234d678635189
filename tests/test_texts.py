import unittest

from leftnumbers.errors import LeftError, NoText
from leftnumbers.texts import read_left, show_left
from things import every_left, great_figures, no_whole_numbers

FAR = 10 ** 30


class Showing(unittest.TestCase):
    def test_the_two_texts_of_the_document(self):
        self.assertEqual(show_left((7, -2, (4, 0, 3))), "7 -2 : 3 0 4")
        self.assertEqual(show_left((7, 5, ())), "7 5 :")

    def test_others(self):
        self.assertEqual(show_left((2, 0, (1,))), "2 0 : 1")
        self.assertEqual(show_left((97, 0, (1, 96, 10, 0))), "97 0 : 0 10 96 1")
        self.assertEqual(show_left((11, FAR, (10,))), "11 1" + "0" * 30 + " : 10")
        self.assertEqual(show_left((11, -FAR, ())), "11 -1" + "0" * 30 + " :")

    def test_a_text_is_told(self):
        self.assertIs(type(show_left((3, 0, (1, 2)))), str)

    def test_asked_again_it_answers_alike(self):
        self.assertEqual([show_left((3, 0, (1, 2))) for asked in range(3)], ["3 0 : 2 1"] * 3)


class Reading(unittest.TestCase):
    def assert_read(self, text, left):
        told = read_left(text)
        self.assertEqual(told, left)
        self.assertEqual([type(thing) for thing in told], [int, int, tuple])

    def test_the_two_texts_of_the_document(self):
        self.assert_read("7 -2 : 3 0 4", (7, -2, (4, 0, 3)))
        self.assert_read("7 5 :", (7, 5, ()))

    def test_each_that_is_shown_is_read_to_itself(self):
        for p in (2, 3, 5):
            for one in every_left(p, (-FAR, -10, -1, 0, 1, 10, FAR), 3):
                self.assert_read(show_left(one), one)

    def test_long_ones(self):
        for p in (2, 11, 97):
            for least in (-FAR, 1 - FAR, -750, 0, FAR - 1500, FAR):
                one = (p, least, great_figures(p, 1500, p))
                self.assert_read(show_left(one), one)

    def test_places_of_thirty_one_figures(self):
        for least in (FAR, -FAR, 10 ** 31 - 1, 1 - 10 ** 31, 2 * FAR + 1):
            self.assert_read(f"5 {least} : 3", (5, least, (3,)))

    def test_asked_again_it_answers_alike(self):
        self.assertEqual([read_left("3 0 : 2 1") for asked in range(3)], [(3, 0, (1, 2))] * 3)


class Refusing(unittest.TestCase):
    def refuse(self, texts):
        for text in texts:
            with self.subTest(text=text):
                with self.assertRaises(NoText):
                    read_left(text)

    def test_noughts_ahead(self):
        self.refuse(["07 -2 : 3 0 4", "7 -02 : 3 0 4", "7 02 : 3 0 4", "7 -2 : 03 0 4", "7 -2 : 3 00 4",
                     "7 -2 : 3 0 04", "7 00 :", "7 05 :", "007 5 :"])

    def test_0_with_a_sign(self):
        self.refuse(["7 -0 :", "7 -0 : 3", "7 -2 : 3 -0 4", "7 -2 : -0 4", "7 -00 :"])

    def test_a_sign_of_more(self):
        self.refuse(["+7 5 :", "7 +5 :", "7 -2 : +3 0 4", "7 -2 : 3 +0 4", "7 +0 :", "7 -+5 :", "7 +-5 :"])

    def test_signs_of_less(self):
        self.refuse(["7 --5 :", "7 - :", "7 -5- :", "7 5- :", "7 - 5 :", "- 5 :", "-7 5 :", "7 0 : -3", "7 0 : -",
                     "7 0 : -3 4", "7 0 : 3 -4"])

    def test_blanks(self):
        self.refuse(["7  -2 : 3 0 4", "7 -2  : 3 0 4", "7 -2 :  3 0 4", "7 -2 : 3  0 4", "7 -2 : 3 0  4",
                     " 7 -2 : 3 0 4", "7 -2 : 3 0 4 ", "7 5 : ", " 7 5 :", "7  5 :", "7 5  :", "7 5 :  ", " ", "  ",
                     "   "])

    def test_tabs_line_ends_and_other_gaps(self):
        for gap in ("\t", "\n", "\r", "\r\n", "\v", "\f", "\x1c", "\x85", "\xa0", "\u2003", "\u2028", "\ufeff"):
            self.refuse([f"7{gap}-2 : 3 0 4", f"7 -2{gap}: 3 0 4", f"7 -2 :{gap}3 0 4", f"7 -2 : 3{gap}0 4",
                         f"7 -2 : 3 0 4{gap}", f"{gap}7 -2 : 3 0 4", f"7 5 :{gap}", f"7 5 : {gap}", gap])

    def test_a_low_line(self):
        self.refuse(["7 1_0 :", "1_7 5 :", "17 0 : 1_0", "7 _5 :", "7 5_ :", "7 0 : _3", "7_0 :"])

    def test_a_figure_out_of_bounds(self):
        self.refuse(["7 -2 : 3 0 7", "7 -2 : 3 7 4", "7 -2 : 7 0 4", "7 -2 : 8", "2 0 : 2", "2 0 : 1 2 1", "97 0 : 97",
                     "97 0 : 100 1", "7 0 : -1", "7 0 : 1 -1 1", "7 0 : " + "9" * 31])

    def test_a_first_figure_0(self):
        self.refuse(["7 -2 : 3 0 0", "7 -2 : 0", "7 0 : 0 0", "2 0 : 1 0", "7 5 : 3 0"])

    def test_no_colon(self):
        self.refuse(["7 -2 3 0 4", "7 5", "7", "7 5 ;", "7 5 . 3", "7 5: 3", "7 5:", "7 5 :3", "7: 5 3", ": 7 5",
                     "7 : 5", "7 5 : :", "7 5 :: 3", "7 5 : 3 :", "7 5 : 3 : 4", ":", "7 :", "7 5 3 :", "7 5 3 : 4",
                     "7 5 \uff1a 3"])

    def test_no_prime(self):
        self.refuse(["0 5 :", "1 5 :", "4 5 :", "9 5 : 1", "91 0 : 1", "98 0 :", "101 0 : 1", "-7 5 :", "-2 0 : 1",
                     "9" * 31 + " 0 :"])

    def test_more_than_thirty_one_figures(self):
        for number in (10 ** 31, 10 ** 31 + 1, 10 ** 60, 9 * 10 ** 31):
            self.refuse([f"7 {number} :", f"7 -{number} :", f"7 {number} : 3", f"{number} 0 :", f"7 0 : {number}"])
        self.refuse(["7 " + "9" * 10000 + " :", "9" * 10000 + " 0 :", "7 0 : " + "9" * 10000, "7 0 : " + "0" * 32])

    def test_figures_of_other_scripts(self):
        for seven in ("\u0667", "\u06f7", "\u096d", "\uff17", "\u2077", "\u2087", "\u2466", "\U0001d7d5"):
            self.refuse([f"{seven} 5 :", f"7 {seven} :", f"7 -{seven} :", f"11 0 : {seven}", f"11 0 : 1 {seven}",
                         f"1{seven} 0 :", f"11 1{seven} : 3"])
        self.refuse(["7 \u22122 : 3 0 4", "7 \u20132 : 3 0 4"])

    def test_other_texts(self):
        self.refuse(["", "abc", "7 x :", "x 5 :", "7 5 : x", "7 5 : 3 x 4", "7 0.0 :", "7.0 5 :", "7 5 : 3.0",
                     "7 1e3 :", "0x7 5 :", "7 5 : 0x3", "(7, 5, ())", "7 -2 : 3,0,4", "7, 5 :", "7 5 : None", "7 5 : True",
                     "7 5 : 3 0 4 \x00", "\x007 5 :"])

    def test_what_is_no_text(self):
        things = no_whole_numbers() + [7, 0, (7, 5, ()), [7, 5, ()], ("7 5 :",), ["7 5 :"]]
        things += [b"7 5 :", bytearray(b"7 5 :")]
        for number, thing in enumerate(things):
            with self.subTest(number=number):
                with self.assertRaises(NoText):
                    read_left(thing)

    def test_a_refusal_is_a_left_error(self):
        with self.assertRaises(LeftError):
            read_left("")

    def test_any_small_change_of_a_text_is_read_only_as_it_is_shown(self):
        start = "11 -20 : 3 10 4"
        for k in range(len(start) + 1):
            for sign in ["", "0", "1", "9", " ", "-", "+", ":", "_", "\n"]:
                for text in (start[:k] + sign + start[k:], start[:k] + sign + start[k + 1:]):
                    try:
                        told = read_left(text)
                    except NoText:
                        continue
                    self.assertEqual(show_left(told), text)


if __name__ == "__main__":
    unittest.main()
