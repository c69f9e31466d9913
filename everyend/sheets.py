"""All that steps need to know of a program, worked out once."""

from everyend.families import all_fields, all_methods, family_of
from everyend.layouts import spots_of


class Sheet:
    """What a program without lasts says, ready to look up. Nothing changes it.

    shared_names: ascending; first_words: the words that they have at first.
    By the name of a class: fields, methods (a dict), class_levels, families
    (the class and its ancestors). By the name of a function: parameters,
    function_levels, spots (a list by places).
    """

    def __init__(self, shared, classes, functions):
        self.shared_names = tuple(sorted(shared))
        self.first_words = tuple([shared[name] for name in self.shared_names])
        self.fields = {name: all_fields(classes, name) for name in classes}
        self.methods = {name: all_methods(classes, name) for name in classes}
        self.families = {name: family_of(classes, name) for name in classes}
        self.class_levels = {name: classes[name][1] for name in classes}
        self.parameters = {name: functions[name][0] for name in functions}
        self.function_levels = {name: functions[name][1] for name in functions}
        self.spots = {name: spots_of(functions[name][2]) for name in functions}
