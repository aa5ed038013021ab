"""The interface: its names, arguments and values stand where the document lists them."""

import ast
import os
import unittest
from importlib import import_module

PACKAGE = os.path.join(os.path.dirname(os.path.abspath(__file__)), '..', 'landstack')
ERRORS = ('HostError', 'ContentError', 'GraphError', 'PatchError', 'RightError', 'ReviewError', 'CheckError',
          'QueryError', 'BuildError', 'VersionError', 'IssueError', 'ProofError', 'HookError')

VALUES = {
    'contents': {'NAME_SIGNS': 'abcdefghijklmnopqrstuvwxyzABCDEFGHIJKLMNOPQRSTUVWXYZ0123456789._-'},
    'anchors': {'STATES_OF_ANCHORS': ('same', 'moved', 'changed', 'gone')},
    'merging': {'OURS': '<<<<<<<', 'MIDDLE': '=======', 'THEIRS': '>>>>>>>'},
    'packs': {'FIRST': '#commits'},
    'similar': {'HALF': 50},
    'host': {'RIGHTS': ('read', 'write', 'admin')},
    'versions': {'SIGNS_OF_RANGES': ('^', '~', '>=', '<=', '<', '>', '')},
    'releases': {'CLASSES': ('break', 'add', 'fix')},
    'issues': {'STATES_OF_ISSUES': ('open', 'doing', 'review', 'done', 'dropped')},
    'policy': {'DEEDS_OF_POLICY': ('read', 'write', 'review', 'land', 'admin')},
    'studio': {'FIRST_VERSION': (0, 1, 0)},
}
FUNCTIONS = {
    'contents': {'check_name': 'name', 'parts_of_path': 'path'},
    'difference': {'common_rows': 'one, other', 'matches': 'one, other', 'patch_between': 'one, other',
                   'apply_patch': 'lines, patch', 'turned': 'patch', 'patch_text': 'patch', 'read_patch': 'lines',
                   'counts': 'patch'},
    'anchors': {'make_anchor': 'files, path, first, last', 'moved_anchor': 'anchor, before, after, moves=()'},
    'merging': {'stable_places': 'base, one, other', 'merge_lines': 'base, one, other',
                'merge_files': 'base, one, other', 'clashes': 'files'},
    'ahead': {'merged_all': 'base, changes', 'clash': 'base, one, other', 'clashes_between': 'base, changes',
              'largest_set': 'base, changes', 'greedy_set': 'base, changes'},
    'history': {'base_files': 'graph, one, other', 'merged_files': 'graph, one, other',
                'merge_commits': 'graph, one, other, author, time, message',
                'pick': 'graph, number, onto, author, time', 'reverse': 'graph, number, onto, author, time',
                'move_line': 'graph, number, onto, time', 'log_lines': 'graph, number'},
    'packs': {'pack_lines': 'graph, numbers', 'number_of': 'text'},
    'storage': {'needed_commits': 'graph, heads', 'needed_contents': 'graph, heads', 'compacted': 'graph, heads',
                'sizes': 'graph, heads', 'check_graph': 'graph'},
    'similar': {'likeness': 'one, other', 'moves_between': 'before, after, least=HALF',
                'followed': 'graph, number, path'},
    'reviews': {'lacks': 'change, rules, paths'},
    'search': {'first_bad': 'graph, good, bad, is_bad', 'touching': 'graph, number, path',
               'amounts': 'graph, number', 'lines_with': 'graph, number, word'},
    'settling': {'conflict_parts': 'lines'},
    'finding': {'question_text': 'question', 'quoted_word': 'text', 'parse_question': 'text', 'threes': 'text',
                'words_of': 'question'},
    'builds': {'digest_of': 'texts'},
    'versions': {'parse_version': 'text', 'version_text': 'version', 'parse_range': 'text', 'range_text': 'rows',
                 'upper_of': 'sign, version', 'in_range': 'version, rows', 'conflicts': 'picked, needs, shelf'},
    'releases': {'class_of': 'message', 'next_version': 'version, messages', 'notes': 'version, rows',
                 'change_mark': 'graph, number', 'lacking_changes': 'graph, line, other'},
    'logbook': {'leaf_mark': 'text', 'joined_mark': 'one, other', 'split_of': 'many',
                'parts_between': 'start, end, cut', 'check_row': 'text, place, many, proof, mark',
                'check_growth': 'few, many, proof, before, after', 'mark_by': 'marks, start, end'},
    'policy': {'rule_of': 'text', 'fits_path': 'pattern, path'},
    'console': {'whole': 'text'},
}
CLASSES = {
    'errors': {name: {} for name in ERRORS},
    'contents': {'Contents': {'__init__': '', 'put': 'content', 'put_text': 'lines', 'content_of': 'number',
                              'text_lines': 'number', 'put_files': 'files', 'files': 'number', 'paths': 'number',
                              'changed_paths': 'one, other', 'reachable': 'number'}},
    'partial': {'Window': {'__init__': 'folders', 'sees': 'path', 'look': 'files', 'with_changes': 'files, seen',
                           'wider': 'folders', 'deeds_between': 'before, after'}},
    'anchors': {'Anchor': {'__init__': 'path, first, last, lines', 'shown': ''},
                'Discussion': {'__init__': '', 'begin': 'anchor, person, text', 'answer': 'number, person, text',
                               'settle': 'number', 'move': 'before, after, moves=()', 'open_at': 'path'}},
    'merging': {'Merged': {'__init__': 'value, conflicts', 'is_clean': ''}},
    'graph': {'Commit': {'__init__': 'tree, parents, author, time, message', 'shown': ''},
              'Graph': {'__init__': 'contents', 'add': 'commit', 'commit': 'number', 'files': 'number',
                        'ancestors': 'number', 'comes_from': 'number, other', 'bases': 'one, other',
                        'new_in': 'one, other', 'line': 'number', 'changed': 'number', 'writers': 'number, path'}},
    'packs': {'PackReader': {'__init__': 'lines, graph, known', 'read_all': ''},
              'Clone': {'__init__': '', 'end_at': 'number', 'fetch': 'graph, number', 'push': 'graph'}},
    'storage': {'Compact': {'__init__': 'graph, commits, contents'}},
    'similar': {'Moves': {'__init__': 'kept, moved, gone, fresh', 'shown': ''}},
    'checks': {'Job': {'__init__': 'name, needs=(), length=1, tries=1'}, 'Plan': {'__init__': 'jobs', 'names': ''},
               'Run': {'__init__': 'plan, tree', 'ready': '', 'begin': 'name', 'running': '', 'finish': 'name, good',
                       'outcome': ''},
               'Scheduler': {'__init__': 'plan, workers, judge', 'ask': 'tree', 'asked': '', 'cancel': 'tree',
                             'settle': 'tree', 'busy': '', 'tick': ''}},
    'reviews': {'Rules': {'__init__': 'needed=1, owners=(), sticky=False', 'owners_of': 'path'},
                'Change': {'__init__': 'number, author, branch, head', 'state_to': 'state', 'vote': 'name, value',
                           'remark': 'name, path, line, text', 'settle': 'place', 'move': 'head, keep',
                           'supporters': ''}},
    'landing': {'Entry': {'__init__': 'change'},
                'Queue': {'__init__': 'graph, head, scheduler, depth=3', 'add': 'change', 'build': 'time',
                          'outcome': 'entry', 'land': 'entry, time'}},
    'host': {'Branch': {'__init__': 'head', 'end': ''},
             'Host': {'__init__': 'scheduler, owner', 'allow': 'name, other, right',
                      'commit': 'name, files, parents, message', 'make_branch': 'name, branch, number',
                      'guard': 'name, branch, rules, depth=3', 'push': 'name, branch, number',
                      'propose': 'name, branch, number', 'vote': 'name, number, value',
                      'remark': 'name, number, path, line, text', 'settle': 'name, number, place',
                      'move': 'name, number, head', 'drop': 'name, number', 'lacking': 'number',
                      'land': 'name, number', 'tick': ''}},
    'settling': {'Settler': {'__init__': '', 'learn': 'lines, settled', 'apply': 'lines'}},
    'finding': {'Index': {'__init__': '', 'put': 'path, lines', 'drop': 'path', 'may_have': 'text',
                          'holds': 'question, path', 'candidates': 'question', 'answers': 'question'}},
    'builds': {'Target': {'__init__': 'name, files, targets, recipe'},
               'Recipes': {'__init__': 'targets', 'order': 'names', 'needing': 'names'},
               'Builder': {'__init__': 'plan', 'build': 'files, names, make'}},
    'versions': {'Shelf': {'__init__': '', 'put': 'name, version, needs', 'versions': 'name'},
                 'Solver': {'__init__': 'shelf', 'solve': 'needs'}},
    'issues': {'Issue': {'__init__': 'number, title, author', 'shown': ''},
               'Tracker': {'__init__': '', 'issue': 'number', 'note': 'who, number, word, rest', 'add': 'who, title',
                           'give': 'who, number, doer', 'step': 'who, number, state', 'label': 'who, number, label',
                           'wait': 'who, number, other', 'all_waits': 'number', 'held_by': 'number', 'ready': '',
                           'board': '', 'long_row': '', 'in_order': ''}},
    'logbook': {'Logbook': {'__init__': '', 'add': 'text', 'mark': 'many', 'proof_of_row': 'place, many',
                            'proof_of_growth': 'few, many'}},
    'policy': {'Rule': {'__init__': 'word, who, deeds, pattern', 'shown': ''},
               'Policy': {'__init__': '', 'put_group': 'name, members', 'put_rule': 'text', 'groups_of': 'person',
                          'deciding': 'person, deed, path', 'may': 'person, deed, path',
                          'who_may': 'persons, deed, path', 'useless': 'persons, paths', 'all_rights': 'persons, paths'}},
    'impact': {'Suite': {'__init__': '', 'add': 'name, patterns, needs=(), length=1', 'touched': 'paths',
                         'with_needs': 'names', 'shares': 'names, machines'},
               'Trust': {'__init__': '', 'note': 'test, tree, good', 'doubtful': 'many=2', 'verdict': 'tree, tests',
                         'bad_since': 'test, trees'}},
    'hooks': {'Hook': {'__init__': 'name, words'},
              'Teller': {'__init__': '', 'add': 'name, words', 'hook': 'name', 'happen': 'word, text', 'tick': 'send',
                         'switch': 'name, on'}},
    'studio': {'Studio': {'__init__': 'host', 'propose': 'name, branch, number', 'files_of': 'number',
                          'talk_of': 'number', 'say': 'name, number, spot, text', 'answer': 'name, number, place, text',
                          'settle': 'name, number, place', 'move': 'name, number, head', 'tests_of': 'number',
                          'note': 'name, number, test, good', 'lacking': 'number', 'land': 'name, number', 'tick': '',
                          'release': 'name, branch'}},
    'console': {'Console': {'__init__': "owner, word='bad'", 'enter': 'name, line'}},
}


def defined(nodes, kind):
    return {node.name: node for node in nodes if isinstance(node, kind)}


def tree_of(module):
    with open(os.path.join(PACKAGE, module + '.py'), encoding='utf-8') as file:
        return ast.parse(file.read())


class InterfaceTest(unittest.TestCase):
    def test_values(self):
        for module, values in VALUES.items():
            for name, value in values.items():
                self.assertEqual(getattr(import_module('landstack.' + module), name), value)

    def test_functions_are_defined_in_their_files(self):
        for module, functions in FUNCTIONS.items():
            found = defined(tree_of(module).body, ast.FunctionDef)
            for name, parameters in functions.items():
                with self.subTest(module=module, name=name):
                    self.assertEqual(ast.unparse(found[name].args), parameters)

    def test_classes_and_their_methods_are_defined_in_their_files(self):
        for module, classes in CLASSES.items():
            found = defined(tree_of(module).body, ast.ClassDef)
            for name, methods in classes.items():
                told = defined(found[name].body, ast.FunctionDef)
                for method, parameters in methods.items():
                    with self.subTest(module=module, name=name, method=method):
                        self.assertEqual(ast.unparse(told[method].args), ', '.join(['self'] + [parameters] * (
                            parameters != '')))
