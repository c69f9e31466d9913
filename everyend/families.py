"""What classes have from their ancestors. Classes are a dict as a program has it."""


def family_of(classes, name):
    """The class and its ancestors, the nearest first, each once even where they go in a ring."""
    family = []
    while name is not None and name not in family:
        family.append(name)
        name = classes[name][0]
    return family


def goes_in_a_ring(classes, name):
    """Whether the class has an ancestor that is its own ancestor."""
    oldest = family_of(classes, name)[-1]
    return classes[oldest][0] is not None


def all_fields(classes, name):
    """The fields of a class: first those of its parent, then its own."""
    fields = []
    for ancestor in reversed(family_of(classes, name)):
        fields.extend(classes[ancestor][2])
    return tuple(fields)


def all_methods(classes, name):
    """The methods of a class, its own ones ahead of those of its parent."""
    methods = {}
    for ancestor in reversed(family_of(classes, name)):
        methods.update(classes[ancestor][3])
    return methods
