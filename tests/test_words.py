from crosslocks import words
from tests.samples import Case


class Words(Case):
    def test_waters(self):
        self.same(words.RED, "red")
        self.same(words.BLUE, "blue")

    def test_most(self):
        self.same(words.MOST, 400)
