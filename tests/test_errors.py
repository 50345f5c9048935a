import unittest

from voicewright import errors

NAMES = ("BadNote", "BadTime", "BadLine", "NoLine", "BadPaper", "BadSize", "BadText", "BadStore", "NoSuch")


class Errors(unittest.TestCase):
    def test_all_stand_under_music_fault(self):
        self.assertTrue(issubclass(errors.MusicFault, ValueError))
        for name in NAMES:
            self.assertTrue(issubclass(getattr(errors, name), errors.MusicFault), name)

    def test_each_is_its_own(self):
        for name in NAMES:
            kind = getattr(errors, name)
            self.assertEqual(kind.__bases__, (errors.MusicFault,), name)
            with self.assertRaises(kind):
                raise kind("why")
