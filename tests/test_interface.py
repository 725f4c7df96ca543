"""The document's interface: names, arguments and where they stand."""

import importlib
import inspect
import unittest

FUNCTIONS = {
    "cuts": "spots_of(cuts) how_many(cuts) holds(one,other) further(one,other) together(one,other) laid(some)",
    "writings": "made_writing(n,k,table) reading(writing,cuts) numbers_read(writing) ways_up(writing,cuts,number) "
                "least_up(writing,cuts,number) nearest(writing,cuts,number)",
    "askings": "made_askings(k,rows) any_number(k) by_one(k) around(k) one_up(k)",
    "plans": "right_plan(writing,askings,cuts,turns,paper)",
    "ends": "right_end(writing,askings,cuts,turns,paper)",
    "lasting": "lasting(writing,askings,cuts,turns) how_long(writing,askings,cuts) "
               "keep_on(writing,askings,cuts,number)",
    "made": "weighed(weights,k) crossed(labels,size) unary(n) twice(n) copies(k,turns)",
    "joined": "beside(one,other) later(one,other) blank(writing) fewer(writing,k) padded(writing,more) "
              "renamed(writing,spots,numbers)",
    "counting": "counted(n,k,turns) spots_between(k,turns)",
    "sealing": "sealing(writing) right_open(writing,paper) could_read(writing,cuts) compared(writing,stock,foil)",
    "chains": "right_chains(n,paper) chains_of(n) sealed_of(n,k) fewest_sealed(k)",
    "tearing": "finding(writing,tears) mending(writing,tears) right_missed(writing,tears,paper) "
               "right_unsure(writing,tears,paper) behind(writing,tears,cuts) mended(writing,tears,cuts) "
               "tear_room(writing,tears)",
    "summed": "summed(n,rest)",
    "laying": "laying(writing,how) right_not(writing,how,paper) tops(writing)",
    "summing": "summing(writing,mine,yours) right_apart(writing,mine,yours,paper)",
    "texts": "writing_text(writing) read_writing(thing)",
}
METHODS = {
    ("ledger", "Ledger(writing)"):
        "begin(name) names() number(name) halves(name) twin(name) put_away(name) write(name,number) "
        "pay(one,other,amount) lend(name) write_twin(name,number) lay(name) cut_alone(name,half,spots) settle(name) "
        "mend(name,tears) back() deeds() at(many)",
    ("desk", "Desk()"): "say(text)",
}


def parts(listed):
    name, _, rest = listed.partition("(")
    return name, [argument for argument in rest[:-1].split(",") if argument]


class Interface(unittest.TestCase):
    def arguments(self, thing):
        listed = inspect.signature(thing).parameters.values()
        for parameter in listed:
            self.assertEqual((parameter.kind, parameter.default), (parameter.POSITIONAL_OR_KEYWORD, parameter.empty))
        return [parameter.name for parameter in listed]

    def test_functions(self):
        for module, listed in FUNCTIONS.items():
            for one in listed.split():
                name, arguments = parts(one)
                function = getattr(importlib.import_module("notchledger." + module), name)
                self.assertEqual(self.arguments(function), arguments, one)
                self.assertEqual(function.__module__, "notchledger." + module)

    def test_methods_stand_in_their_class_itself(self):
        for (module, begun), listed in METHODS.items():
            name, arguments = parts(begun)
            own = getattr(importlib.import_module("notchledger." + module), name)
            self.assertEqual(self.arguments(own), arguments)
            for one in listed.split():
                method, given = parts(one)
                self.assertEqual(self.arguments(vars(own)[method]), ["self"] + given, one)


if __name__ == "__main__":
    unittest.main()
