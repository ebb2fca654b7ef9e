"""What the language of the package says of its files: kinds, sizes, characters and imports."""

import ast
import pathlib
import unittest

PACKAGE = pathlib.Path(__file__).resolve().parent.parent / 'settledreads'
LIBRARY = ('heapq', 'math', 'itertools')


class LayoutTest(unittest.TestCase):
    def files(self):
        found = [path for path in sorted(PACKAGE.rglob('*')) if '__pycache__' not in path.parts]
        self.assertIn(PACKAGE / '__init__.py', found)
        return found

    def test_python_files_alone(self):
        for path in self.files():
            self.assertTrue(path.is_dir() or path.suffix == '.py', path)

    def test_lines_and_characters(self):
        for path in self.files():
            text = path.read_bytes().decode('ascii')
            self.assertEqual([sign for sign in text if sign != '\n' and not ' ' <= sign <= '~'], [], path)
            self.assertLess(text.count('\n'), 400, path)
            self.assertLessEqual(max([len(line) for line in text.split('\n')]), 120, path)

    def test_functions(self):
        for path in self.files():
            for node in ast.walk(ast.parse(path.read_text())):
                if isinstance(node, ast.FunctionDef):
                    self.assertLessEqual(node.end_lineno - node.lineno + 1, 40, (path, node.name))

    def test_imports(self):
        for path in self.files():
            for node in ast.walk(ast.parse(path.read_text())):
                self.assertNotIsInstance(node, ast.Import, path)
                if isinstance(node, ast.ImportFrom):
                    self.assertEqual(node.level, 0, path)
                    self.assertIn(node.module.split('.')[0], ('settledreads', *LIBRARY), path)


if __name__ == '__main__':
    unittest.main()
