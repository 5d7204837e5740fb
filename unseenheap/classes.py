"""Classes, told as tuples (name, number of the elder or None, own fields, own methods)."""


def elders_first(classes, number):
    """The numbers of a class and of its elders, the eldest one first."""
    found = []
    while number is not None:
        found.append(number)
        number = classes[number][1]
    return found[::-1]


def fields_of(classes, number):
    """The tuple of the names of all fields of a class, its elder's first."""
    found = []
    for at in elders_first(classes, number):
        found.extend(classes[at][2])
    return tuple(found)


def method_of(classes, number, name):
    """The number of the code by which a class answers to a name, or None."""
    while number is not None:
        for method, code in classes[number][3]:
            if method == name:
                return code
        number = classes[number][1]
    return None
