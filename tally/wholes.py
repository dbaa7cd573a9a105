"""Whole numbers: asked of any thing, and of the words that write them."""


def is_whole(thing, least, most):
    # Python counts truths among the ints; here they are no whole numbers.
    return isinstance(thing, int) and not isinstance(thing, bool) and least <= thing <= most


def are_wholes(things, mosts):
    return all([is_whole(thing, 1, most) for thing, most in zip(things, mosts)])


def writes_whole(word, least, most):
    # The length is asked first, so that no long word is turned into a number.
    if not 1 <= len(word) <= len(str(most)):
        return False
    if not all(["0" <= sign <= "9" for sign in word]):
        return False
    if word[0] == "0" and word != "0":
        return False
    return least <= int(word) <= most
