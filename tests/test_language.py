"""Rules of ../shared/LANGUAGE.md that a look at the files can tell: size, signs, imports, names and calls."""

import ast
import builtins
import os
import unittest

PACKAGE = os.path.join(os.path.dirname(os.path.abspath(__file__)), '..', 'landstack')
BUILTINS = set('''len range enumerate zip min max sum abs sorted reversed int str bool list tuple dict set isinstance ord
repr any all divmod'''.split())
METHODS = set('''append clear copy count endswith extend find get index insert isalnum isalpha isdigit islower isspace
isupper items join keys ljust lower lstrip partition pop remove replace reverse rfind rjust rpartition rsplit rstrip
setdefault split splitlines startswith strip update upper values zfill bit_length'''.split())
HANDED_IN = {'judge', 'is_bad', 'make', 'send', 'action'}
BARRED = (ast.AsyncFunctionDef, ast.Await, ast.AsyncFor, ast.AsyncWith, ast.Import, ast.Div)


def read(name):
    with open(os.path.join(PACKAGE, name), encoding='utf-8') as file:
        return file.read()


def file_names():
    return [name for name in sorted(os.listdir(PACKAGE)) if name != '__pycache__']


def nodes_of(name):
    return list(ast.walk(ast.parse(read(name))))


def names_at_top(name):
    """The names that a file binds at module level, those of imports and classes first."""
    body = ast.parse(read(name)).body
    imports = [alias.name for node in body if isinstance(node, ast.ImportFrom) for alias in node.names]
    classes = [node.name for node in body if isinstance(node, ast.ClassDef)]
    functions = [node.name for node in body if isinstance(node, ast.FunctionDef)]
    values = [target.id for node in body if isinstance(node, ast.Assign) for target in node.targets]
    return imports + classes, functions + values


def local_names(name):
    """The parameters and variables of a file's functions."""
    found = []
    for function in nodes_of(name):
        if isinstance(function, ast.FunctionDef):
            for node in ast.walk(function):
                if isinstance(node, ast.arg):
                    found.append(node.arg)
                elif isinstance(node, ast.Name) and isinstance(node.ctx, ast.Store):
                    found.append(node.id)
    return found


class LanguageTest(unittest.TestCase):
    def test_files_have_plain_names_and_signs_and_are_short(self):
        for name in file_names():
            with self.subTest(name):
                self.assertRegex(name, r'^[a-z_][a-z0-9_]*\.py$')
                text = read(name)
                self.assertTrue(all(sign == '\n' or ' ' <= sign <= '~' for sign in text))
                self.assertLess(len(text.split('\n')), 401)
                self.assertLessEqual(max(len(line) for line in text.split('\n')), 120)

    def test_functions_are_short(self):
        for name in file_names():
            for node in nodes_of(name):
                if isinstance(node, ast.FunctionDef):
                    with self.subTest(file=name, function=node.name):
                        self.assertLessEqual(node.end_lineno - node.lineno + 1, 40)

    def test_imports_name_the_file_that_defines_the_name(self):
        for name in file_names():
            for node in nodes_of(name):
                if isinstance(node, ast.ImportFrom):
                    with self.subTest(file=name, module=node.module):
                        self.assertEqual((node.level, node.module.split('.')[0]), (0, 'landstack'))
                        other = node.module.split('.')[1] + '.py'
                        classes = [told.name for told in nodes_of(other) if isinstance(told, ast.ClassDef)]
                        self.assertLessEqual({alias.name for alias in node.names},
                                             set(classes + names_at_top(other)[1]))

    def test_no_two_files_import_from_each_other(self):
        left = {name: {node.module.split('.')[1] + '.py' for node in nodes_of(name) if isinstance(node, ast.ImportFrom)}
                for name in file_names()}
        while left:
            ready = [name for name, others in left.items() if not others & set(left)]
            self.assertNotEqual(ready, [], left)
            for name in ready:
                del left[name]

    def test_names_are_bound_once_and_are_no_builtins(self):
        for name in file_names():
            with self.subTest(name):
                fixed, free = names_at_top(name)
                self.assertEqual(len(fixed + free), len(set(fixed + free)))
                self.assertEqual([word for word in fixed + free + local_names(name) if hasattr(builtins, word)], [])
                self.assertEqual([word for word in local_names(name) if word in fixed], [])

    def test_statements_and_calls_are_those_that_are_allowed(self):
        own = {node.name for name in file_names() for node in nodes_of(name)
               if isinstance(node, (ast.FunctionDef, ast.ClassDef))}
        for name in file_names():
            for node in nodes_of(name):
                where = f'{name}:{getattr(node, "lineno", 0)}'
                self.assertNotIsInstance(node, BARRED, where)
                if isinstance(node, ast.Call) and isinstance(node.func, ast.Name):
                    self.assertIn(node.func.id, BUILTINS | HANDED_IN | own, where)
                if isinstance(node, ast.Call) and isinstance(node.func, ast.Attribute):
                    self.assertIn(node.func.attr, METHODS | own, where)
                if isinstance(node, ast.Constant):
                    self.assertNotIsInstance(node.value, float, where)
