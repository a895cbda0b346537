"""Words of signs, and the rows that stand over them [90]."""

from bowkinds.compared import way_counts
from bowkinds.errors import BadDigit, NoNumber
from bowkinds.rows import Row
from bowkinds.values import is_index

LONGEST = 40


def is_word(thing):
    """Return whether thing is a word."""
    if not isinstance(thing, str) or len(thing) > LONGEST:
        return False
    depth = 0
    for sign in thing:
        if sign not in ("(", ")"):
            return False
        depth += 1 if sign == "(" else -1
        if depth < 0:
            return False
    return depth == 0


def depths(word):
    """Return the list of how many bows are there ahead of each end."""
    found = []
    depth = 0
    for sign in word:
        if sign == "(":
            depth += 1
        else:
            found.append(depth)
            depth -= 1
    return found


def rows_over(word):
    """Return how many rows stand over a word."""
    many = 1
    for depth in depths(word):
        many = many * depth
    return many


def digits_of(row):
    """Return the list of how many of the bows that are there ahead of each end
    began behind the one that ends."""
    ends = sorted([(end, begin) for begin, end in row])
    return [len([1 for its, start in ends if begin < start < end < its]) for end, begin in ends]


def row_by(word, digits):
    """Return the Row over a word that has these digits."""
    if not isinstance(digits, list):
        raise BadDigit(-1)
    bounds = depths(word)
    for at in range(len(digits)):
        if at >= len(bounds) or not is_index(digits[at], bounds[at]):
            raise BadDigit(at)
    if len(digits) < len(bounds):
        raise BadDigit(len(digits))
    begins = []
    bows = []
    for place in range(len(word)):
        if word[place] == "(":
            begins.append(place)
        else:
            last = len(begins) - 1
            bows.append((begins.pop(last - digits[len(bows)]), place))
    return Row(sorted(bows))


def word_of(row):
    """Return the word over which a row stands, or None."""
    signs = 2 * len(row)
    begins = [begin for begin, _ in row]
    if signs > LONGEST or row.places() != list(range(signs)) or begins != sorted(begins):
        return None
    return _signs_of(row)


def row_at(word, number):
    """Return the Row with a number among those over a word."""
    if not is_index(number, rows_over(word)):
        raise NoNumber(number)
    digits = []
    left = number
    for depth in depths(word)[::-1]:
        digits.append(left % depth)
        left = left // depth
    return row_by(word, digits[::-1])


def number_of(row):
    """Return the number of a row among those over its word."""
    bounds = depths(_signs_of(row))
    digits = digits_of(row)
    number = 0
    for at in range(len(digits)):
        number = number * bounds[at] + digits[at]
    return number


def crossings(row):
    """Return how many pairs of bows of a row are crossing."""
    return way_counts(row).get("crossing", 0)


def nestings(row):
    """Return how many pairs of bows of a row are within one another."""
    return way_counts(row).get("within", 0)


def words_of(many):
    """Return the ascending list of all words with so many bows."""
    words = [""]
    for _ in range(2 * many):
        words = [word + sign for word in words for sign in "()" if _may_follow(word, sign, many)]
    return words


def _may_follow(word, sign, many):
    if sign == "(":
        return word.count("(") < many
    return word.count(")") < word.count("(")


def _signs_of(row):
    begins = [begin for begin, _ in row]
    return "".join(["(" if place in begins else ")" for place in row.places()])
