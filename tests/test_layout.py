"""What the language of the package says of its files: kinds, sizes, characters and imports."""

import ast
import pathlib
import unittest

PACKAGE = pathlib.Path(__file__).resolve().parent.parent / 'settledreads'
LIBRARY = ('heapq', 'math', 'itertools')


CHANGING = ('append', 'clear', 'extend', 'insert', 'pop', 'remove', 'reverse', 'setdefault', 'sort', 'update')


def same_names(function):
    """For each name of a function all that may be names of the same thing, itself too."""
    groups = {}
    for node in ast.walk(function):
        if isinstance(node, ast.Assign) and isinstance(node.value, ast.Name):
            for target in node.targets:
                if isinstance(target, ast.Name):
                    both = groups.get(target.id, {target.id}) | groups.get(node.value.id, {node.value.id})
                    groups.update({name: both for name in both})
    return groups


def changed_in(rows):
    """The names of what is changed in rows: by a method, or by an item."""
    found = set()
    for node in [node for row in rows for node in ast.walk(row)]:
        target = None
        if isinstance(node, ast.Call) and isinstance(node.func, ast.Attribute) and node.func.attr in CHANGING:
            target = node.func.value
        elif isinstance(node, ast.Subscript) and not isinstance(node.ctx, ast.Load):
            target = node.value
        elif isinstance(node, ast.AugAssign):
            target = node.target
        if target is not None:
            found.add(ast.unparse(target))
    return found


def walked_by(loop):
    """The names of what a loop walks, also within enumerate and the like."""
    return {ast.unparse(node) for node in ast.walk(loop.iter) if isinstance(node, (ast.Name, ast.Attribute))}


def exit_functions(tree):
    """The __exit__ of each class, and the methods of its own that it calls."""
    found = []
    for scope in [node for node in ast.walk(tree) if isinstance(node, ast.ClassDef)]:
        methods = {node.name: node for node in scope.body if isinstance(node, ast.FunctionDef)}
        rows = [methods['__exit__']] if '__exit__' in methods else []
        for row in rows:
            called = [ast.unparse(node.func) for node in ast.walk(row) if isinstance(node, ast.Call)]
            rows += [methods[name] for name in methods if f'self.{name}' in called and methods[name] not in rows]
        found += rows
    return found


def is_plain_test(node):
    """Whether a test asks names and attributes by is None and is not None alone."""
    if isinstance(node, ast.BoolOp):
        return all([is_plain_test(part) for part in node.values])
    if isinstance(node, ast.UnaryOp):
        return isinstance(node.op, ast.Not) and is_plain_test(node.operand)
    if not isinstance(node, ast.Compare) or len(node.ops) > 1 or not isinstance(node.left, (ast.Name, ast.Attribute)):
        return False
    told = node.comparators[0]
    return isinstance(node.ops[0], (ast.Is, ast.IsNot)) and isinstance(told, ast.Constant) and told.value is None


def is_plain_value(node):
    """Whether a value is a name, an attribute, a written one, a list or tuple of such, or a sum of such."""
    if isinstance(node, (ast.List, ast.Tuple)):
        return all([is_plain_value(part) for part in node.elts])
    if isinstance(node, ast.BinOp):
        is_minus = isinstance(node.op, ast.Sub) and isinstance(node.right, ast.Constant)
        return (is_minus or isinstance(node.op, ast.Add)) and is_plain_value(node.left) and is_plain_value(node.right)
    return isinstance(node, (ast.Name, ast.Attribute, ast.Constant))


def is_plain_call(node, names):
    """Whether a call is one of .append and .clear, or of one of these methods of the object itself."""
    if not isinstance(node, ast.Call) or node.keywords or not isinstance(node.func, ast.Attribute):
        return False
    if ast.unparse(node.func) in [f'self.{name}' for name in names]:
        return not node.args
    return node.func.attr in ('append', 'clear') and all([is_plain_value(part) for part in node.args])


def is_exit_row(node, names):
    """Whether a row may stand in an __exit__; names: of the methods that it may call."""
    if isinstance(node, ast.If):
        return is_plain_test(node.test) and all([is_exit_row(row, names) for row in node.body + node.orelse])
    if isinstance(node, ast.Return):
        return node.value is None or isinstance(node.value, ast.Constant) and node.value.value in (None, False)
    if isinstance(node, ast.Assign):
        return all([isinstance(part, ast.Attribute) for part in node.targets]) and is_plain_value(node.value)
    if isinstance(node, ast.AugAssign):
        return isinstance(node.target, ast.Attribute) and is_plain_value(node.value)
    if isinstance(node, ast.Expr):
        return isinstance(node.value, ast.Constant) or is_plain_call(node.value, names)
    return isinstance(node, ast.Pass)


def exit_faults(tree):
    """The lines of what L6 does not let stand in the __exit__ of a file."""
    functions = exit_functions(tree)
    names = [function.name for function in functions]
    faults = [row.lineno for function in functions for row in function.body if not is_exit_row(row, names)]
    for function in [function for function in functions if function.name == '__exit__']:
        kind, *rest = [part.arg for part in function.args.args[1:]]
        tests = [node for node in ast.walk(function) if isinstance(node, ast.Compare)]
        asked = [node.left for node in tests if isinstance(node.left, ast.Name) and node.left.id == kind]
        read = [node for node in ast.walk(function) if isinstance(node, ast.Name) and node.id in (kind, *rest)]
        faults += [node.lineno for node in read if node not in asked]
    return faults


class LayoutTest(unittest.TestCase):
    def files(self):
        found = [path for path in sorted(PACKAGE.rglob('*')) if '__pycache__' not in path.parts]
        self.assertIn(PACKAGE / '__init__.py', found)
        return found

    def test_python_files_alone(self):
        for path in self.files():
            self.assertTrue(path.is_dir() or path.suffix == '.py', path)

    def test_lines_and_characters(self):
        for path in self.files():
            text = path.read_bytes().decode('ascii')
            self.assertEqual([sign for sign in text if sign != '\n' and not ' ' <= sign <= '~'], [], path)
            self.assertLess(text.count('\n'), 400, path)
            self.assertLessEqual(max([len(line) for line in text.split('\n')]), 120, path)

    def test_functions(self):
        for path in self.files():
            for node in ast.walk(ast.parse(path.read_text())):
                if isinstance(node, ast.FunctionDef):
                    self.assertLessEqual(node.end_lineno - node.lineno + 1, 40, (path, node.name))

    def test_imports(self):
        for path in self.files():
            for node in ast.walk(ast.parse(path.read_text())):
                self.assertNotIsInstance(node, ast.Import, path)
                if isinstance(node, ast.ImportFrom):
                    self.assertEqual(node.level, 0, path)
                    self.assertIn(node.module.split('.')[0], ('settledreads', *LIBRARY), path)

    def test_a_property_has_its_name_alone(self):
        """No attribute is assigned, and no method is called, as a property of some class is."""
        properties, methods, attributes = set(), set(), set()
        for path in self.files():
            for node in ast.walk(ast.parse(path.read_text())):
                if isinstance(node, ast.FunctionDef) and node.args.args[:1] and node.args.args[0].arg == 'self':
                    signs = [sign.id if isinstance(sign, ast.Name) else sign.attr for sign in node.decorator_list]
                    (properties if 'property' in signs or 'setter' in signs else methods).add(node.name)
                if isinstance(node, ast.Attribute) and isinstance(node.ctx, ast.Store):
                    attributes.add(node.attr)
        self.assertEqual([properties & methods, properties & attributes, methods & attributes], [set(), set(), set()])

    def test_what_a_loop_walks_is_not_changed_in_it(self):
        """By none of its names; what is walked as list(..) is another thing."""
        for path in self.files():
            for function in [node for node in ast.walk(ast.parse(path.read_text())) if isinstance(node, ast.FunctionDef)]:
                names = same_names(function)
                for loop in [node for node in ast.walk(function) if isinstance(node, ast.For)]:
                    if isinstance(loop.iter, ast.Call) and ast.unparse(loop.iter.func) == 'list':
                        continue
                    walked = {other for name in walked_by(loop) for other in names.get(name, {name})}
                    self.assertEqual(walked & changed_in(loop.body), set(), (path, loop.lineno))

    def test_exits_ask_by_none_alone(self):
        """Classes have __eq__ and __len__, so no __exit__ asks an attribute by its truth or beside a literal."""
        found = []
        for path in self.files():
            tree = ast.parse(path.read_text())
            found += [path.stem for _ in exit_functions(tree)]
            self.assertEqual(exit_faults(tree), [], path)
        self.assertEqual(found, ['readings', 'trials'])

    def test_what_an_exit_may_not_ask(self):
        """What is asked above tells rows that may stand there from others."""
        head = 'class Box:\n    def shut(self):\n        {}\n    def __exit__(self, kind, value, trace):\n        {}'
        let = ['pass', 'return', 'return False', 'self.a = self.b.c', 'self.a = [kind_now, "x"]', 'self.rows.clear()', 'self.n -= 1',
               'if self.a.b is None or not self.c is not None: self.a = None']
        barred = ['return True', 'return self.a', 'a = 1', 'self.a[0] = 1', 'self.a = self.told()', 'self.rows.pop()', 'raise ValueError',
                  'if self.a: pass', 'if not self.a.b: pass', 'if self.a is None or not self.b: pass', 'if self.a == 1: pass',
                  'if self.a is None:\n            if self.b is True: pass', 'while self.a is None: pass', 'self.other()']
        for row in let + ['self.shut()', 'if kind is not None or self.a is None: pass']:
            self.assertEqual(exit_faults(ast.parse(head.format('pass', row))), [], row)
        for row in let:
            self.assertEqual(exit_faults(ast.parse(head.format(row, 'self.shut()'))), [], row)
        for row in barred + ['if kind: pass', 'self.a = kind', 'if value is None: pass', 'self.rows.append(trace)']:
            self.assertNotEqual(exit_faults(ast.parse(head.format('pass', row))), [], row)
        for row in barred:
            self.assertNotEqual(exit_faults(ast.parse(head.format(row, 'self.shut()'))), [], row)

    def test_imports_go_one_way(self):
        heads = {}
        for path in self.files():
            rows = [node.module for node in ast.walk(ast.parse(path.read_text())) if isinstance(node, ast.ImportFrom)]
            heads[f'settledreads.{path.stem}'] = [name for name in rows if name.startswith('settledreads')]
        while heads:
            free = [name for name, rows in heads.items() if not [row for row in rows if row in heads]]
            self.assertTrue(free, heads)
            heads = {name: rows for name, rows in heads.items() if name not in free}


if __name__ == '__main__':
    unittest.main()
