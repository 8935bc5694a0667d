"""The words of a line."""


def words_of(line):
    apart = line.replace("(", " ( ").replace(")", " ) ")
    return [word for word in apart.split(" ") if word != ""]
