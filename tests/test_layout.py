"""What the language of the package says of its files: kinds, sizes, characters and imports."""

import ast
import pathlib
import unittest

PACKAGE = pathlib.Path(__file__).resolve().parent.parent / 'settledreads'
LIBRARY = ('heapq', 'math', 'itertools')


CHANGING = ('append', 'clear', 'extend', 'insert', 'pop', 'remove', 'reverse', 'setdefault', 'sort', 'update')


def same_names(function):
    """For each name of a function all that may be names of the same thing, itself too."""
    groups = {}
    for node in ast.walk(function):
        if isinstance(node, ast.Assign) and isinstance(node.value, ast.Name):
            for target in node.targets:
                if isinstance(target, ast.Name):
                    both = groups.get(target.id, {target.id}) | groups.get(node.value.id, {node.value.id})
                    groups.update({name: both for name in both})
    return groups


def changed_in(rows):
    """The names of what is changed in rows: by a method, or by an item."""
    found = set()
    for node in [node for row in rows for node in ast.walk(row)]:
        target = None
        if isinstance(node, ast.Call) and isinstance(node.func, ast.Attribute) and node.func.attr in CHANGING:
            target = node.func.value
        elif isinstance(node, ast.Subscript) and not isinstance(node.ctx, ast.Load):
            target = node.value
        elif isinstance(node, ast.AugAssign):
            target = node.target
        if target is not None:
            found.add(ast.unparse(target))
    return found


def walked_by(loop):
    """The names of what a loop walks, also within enumerate and the like."""
    return {ast.unparse(node) for node in ast.walk(loop.iter) if isinstance(node, (ast.Name, ast.Attribute))}


class LayoutTest(unittest.TestCase):
    def files(self):
        found = [path for path in sorted(PACKAGE.rglob('*')) if '__pycache__' not in path.parts]
        self.assertIn(PACKAGE / '__init__.py', found)
        return found

    def test_python_files_alone(self):
        for path in self.files():
            self.assertTrue(path.is_dir() or path.suffix == '.py', path)

    def test_lines_and_characters(self):
        for path in self.files():
            text = path.read_bytes().decode('ascii')
            self.assertEqual([sign for sign in text if sign != '\n' and not ' ' <= sign <= '~'], [], path)
            self.assertLess(text.count('\n'), 400, path)
            self.assertLessEqual(max([len(line) for line in text.split('\n')]), 120, path)

    def test_functions(self):
        for path in self.files():
            for node in ast.walk(ast.parse(path.read_text())):
                if isinstance(node, ast.FunctionDef):
                    self.assertLessEqual(node.end_lineno - node.lineno + 1, 40, (path, node.name))

    def test_imports(self):
        for path in self.files():
            for node in ast.walk(ast.parse(path.read_text())):
                self.assertNotIsInstance(node, ast.Import, path)
                if isinstance(node, ast.ImportFrom):
                    self.assertEqual(node.level, 0, path)
                    self.assertIn(node.module.split('.')[0], ('settledreads', *LIBRARY), path)

    def test_a_property_has_its_name_alone(self):
        """No attribute is assigned, and no method is called, as a property of some class is."""
        properties, methods, attributes = set(), set(), set()
        for path in self.files():
            for node in ast.walk(ast.parse(path.read_text())):
                if isinstance(node, ast.FunctionDef) and node.args.args[:1] and node.args.args[0].arg == 'self':
                    signs = [sign.id if isinstance(sign, ast.Name) else sign.attr for sign in node.decorator_list]
                    (properties if 'property' in signs or 'setter' in signs else methods).add(node.name)
                if isinstance(node, ast.Attribute) and isinstance(node.ctx, ast.Store):
                    attributes.add(node.attr)
        self.assertEqual([properties & methods, properties & attributes, methods & attributes], [set(), set(), set()])

    def test_what_a_loop_walks_is_not_changed_in_it(self):
        """By none of its names; what is walked as list(..) is another thing."""
        for path in self.files():
            for function in [node for node in ast.walk(ast.parse(path.read_text())) if isinstance(node, ast.FunctionDef)]:
                names = same_names(function)
                for loop in [node for node in ast.walk(function) if isinstance(node, ast.For)]:
                    if isinstance(loop.iter, ast.Call) and ast.unparse(loop.iter.func) == 'list':
                        continue
                    walked = {other for name in walked_by(loop) for other in names.get(name, {name})}
                    self.assertEqual(walked & changed_in(loop.body), set(), (path, loop.lineno))

    def test_imports_go_one_way(self):
        heads = {}
        for path in self.files():
            rows = [node.module for node in ast.walk(ast.parse(path.read_text())) if isinstance(node, ast.ImportFrom)]
            heads[f'settledreads.{path.stem}'] = [name for name in rows if name.startswith('settledreads')]
        while heads:
            free = [name for name, rows in heads.items() if not [row for row in rows if row in heads]]
            self.assertTrue(free, heads)
            heads = {name: rows for name, rows in heads.items() if name not in free}


if __name__ == '__main__':
    unittest.main()
