"""Texts as rows of words, and words as numbers."""

# All signs that some word of a formula has. Any other byte becomes STRANGE, which none has:
# a word with it is right nowhere, and which byte it was matters nowhere.
SIGNS = "abcdefghijklmnopqrstuvwxyz0123456789<=>!-()[], \n"
STRANGE = "?"
BLANKS = " \n"
ALONE = "()[],"
MOST_DIGITS = 7


# The words of a text that is given as a list of bytes.
def words_of(text):
    signs = dict([(ord(sign), sign) for sign in SIGNS])
    words = []
    run = ""
    for byte in text:
        sign = signs.get(byte, STRANGE)
        if sign in BLANKS or sign in ALONE:
            if run != "":
                words.append(run)
            run = ""
            if sign in ALONE:
                words.append(sign)
        else:
            run += sign
    if run != "":
        words.append(run)
    return words


# What a number without a sign is worth; None if the word isn't one.
def number_of(word):
    if word.isdigit() and len(word) <= MOST_DIGITS:
        return int(word)
    return None


# What a number, or one with - directly in front, is worth; None if the word is neither.
def signed_number_of(word):
    if not word.startswith("-"):
        return number_of(word)
    value = number_of(word[1:])
    return None if value is None else -value
