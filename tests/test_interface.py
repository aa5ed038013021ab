"""The interface: its names, arguments and values stand where the document lists them."""

import ast
import os
import unittest
from importlib import import_module

PACKAGE = os.path.join(os.path.dirname(os.path.abspath(__file__)), '..', 'landstack')
ERRORS = ('HostError', 'ContentError', 'GraphError', 'PatchError', 'RightError', 'ReviewError', 'CheckError',
          'QueryError', 'BuildError', 'VersionError', 'IssueError', 'ProofError', 'HookError')

VALUES = {
    'contents': {'NAME_SIGNS': 'abcdefghijklmnopqrstuvwxyzABCDEFGHIJKLMNOPQRSTUVWXYZ0123456789._-'},
    'anchors': {'STATES_OF_ANCHORS': ('same', 'moved', 'changed', 'gone')},
    'merging': {'OURS': '<<<<<<<', 'MIDDLE': '=======', 'THEIRS': '>>>>>>>'},
}
FUNCTIONS = {
    'contents': {'check_name': 'name', 'parts_of_path': 'path'},
    'difference': {'common_rows': 'one, other', 'matches': 'one, other', 'patch_between': 'one, other',
                   'apply_patch': 'lines, patch', 'turned': 'patch', 'patch_text': 'patch', 'read_patch': 'lines',
                   'counts': 'patch'},
    'anchors': {'make_anchor': 'files, path, first, last', 'moved_anchor': 'anchor, before, after, moves=()'},
    'merging': {'stable_places': 'base, one, other', 'merge_lines': 'base, one, other',
                'merge_files': 'base, one, other', 'clashes': 'files'},
    'ahead': {'merged_all': 'base, changes', 'clash': 'base, one, other', 'clashes_between': 'base, changes',
              'largest_set': 'base, changes', 'greedy_set': 'base, changes'},
    'history': {'base_files': 'graph, one, other', 'merged_files': 'graph, one, other',
                'merge_commits': 'graph, one, other, author, time, message',
                'pick': 'graph, number, onto, author, time', 'reverse': 'graph, number, onto, author, time',
                'move_line': 'graph, number, onto, time', 'log_lines': 'graph, number'},
}
CLASSES = {
    'errors': {name: {} for name in ERRORS},
    'contents': {'Contents': {'__init__': '', 'put': 'content', 'put_text': 'lines', 'content_of': 'number',
                              'text_lines': 'number', 'put_files': 'files', 'files': 'number', 'paths': 'number',
                              'changed_paths': 'one, other', 'reachable': 'number'}},
    'partial': {'Window': {'__init__': 'folders', 'sees': 'path', 'look': 'files', 'with_changes': 'files, seen',
                           'wider': 'folders', 'deeds_between': 'before, after'}},
    'anchors': {'Anchor': {'__init__': 'path, first, last, lines', 'shown': ''},
                'Discussion': {'__init__': '', 'begin': 'anchor, person, text', 'answer': 'number, person, text',
                               'settle': 'number', 'move': 'before, after, moves=()', 'open_at': 'path'}},
    'merging': {'Merged': {'__init__': 'value, conflicts', 'is_clean': ''}},
    'graph': {'Commit': {'__init__': 'tree, parents, author, time, message', 'shown': ''},
              'Graph': {'__init__': 'contents', 'add': 'commit', 'commit': 'number', 'files': 'number',
                        'ancestors': 'number', 'comes_from': 'number, other', 'bases': 'one, other',
                        'new_in': 'one, other', 'line': 'number', 'changed': 'number', 'writers': 'number, path'}},
}


def defined(nodes, kind):
    return {node.name: node for node in nodes if isinstance(node, kind)}


def tree_of(module):
    with open(os.path.join(PACKAGE, module + '.py'), encoding='utf-8') as file:
        return ast.parse(file.read())


class InterfaceTest(unittest.TestCase):
    def test_values(self):
        for module, values in VALUES.items():
            for name, value in values.items():
                self.assertEqual(getattr(import_module('landstack.' + module), name), value)

    def test_functions_are_defined_in_their_files(self):
        for module, functions in FUNCTIONS.items():
            found = defined(tree_of(module).body, ast.FunctionDef)
            for name, parameters in functions.items():
                with self.subTest(module=module, name=name):
                    self.assertEqual(ast.unparse(found[name].args), parameters)

    def test_classes_and_their_methods_are_defined_in_their_files(self):
        for module, classes in CLASSES.items():
            found = defined(tree_of(module).body, ast.ClassDef)
            for name, methods in classes.items():
                told = defined(found[name].body, ast.FunctionDef)
                for method, parameters in methods.items():
                    with self.subTest(module=module, name=name, method=method):
                        self.assertEqual(ast.unparse(told[method].args), ', '.join(['self'] + [parameters] * (
                            parameters != '')))
